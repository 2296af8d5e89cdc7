"""Pieces of labs."""

import itertools
import unittest

from leakpost.lab import Lab
from leakpost.pieces import pieces
from straight import any_lab, post


def pieces_as_told(lab):
    """The pieces as triples (machines, rows, moves)."""
    named = {name: {act[1] for machine, start, act, end in lab.moves() if machine == name and len(act) > 1}
             for name, first in lab.machines()}
    hang = {(one, other) for one in named for other in named if one == other or named[one] & named[other]}
    for third, one, other in itertools.product(named, repeat=3):
        if (one, third) in hang and (third, other) in hang:
            hang.add((one, other))
    told = []
    for name, first in lab.machines():
        lot = [pair for pair in lab.machines() if (name, pair[0]) in hang]
        if lot[0][0] == name:
            names = [machine for machine, first in lot]
            rows = [pair for pair in lab.rows() if any(pair[0] in named[machine] for machine in names)]
            told.append((lot, rows, [move for move in lab.moves() if move[0] in names]))
    alone = [pair for pair in lab.rows() if not any(pair[0] in rows for rows in named.values())]
    return told + [([], [pair], []) for pair in alone]


def sends(*pairs):
    """A lab of the machines one, two, three in which the told ones send into the told rows."""
    return Lab([(name, "go") for name in ("one", "two", "three")], [("x", "a"), ("y", "b"), ("z", "")],
               [(machine, "go", ("send", row, "a"), "go") for machine, row in pairs])


class TestPieces(unittest.TestCase):
    def names(self, lab):
        """The names of each piece's machines and rows."""
        return [" ".join([name for name, thing in one.machines() + one.rows()]) for one in pieces(lab)]

    def test_labs_that_lack_something(self):
        self.assertEqual(pieces(Lab()), [])
        self.assertEqual(pieces(Lab([("left", "go")])), [Lab([("left", "go")])])
        self.assertEqual(pieces(lab=Lab([], [("road", "a"), ("back", "")])),
                         [Lab([], [("road", "a")]), Lab([], [("back", "")])])
        self.assertEqual(pieces(Lab([("left", "go"), ("right", "stop")], [("road", "ab")])),
                         [Lab([("left", "go")]), Lab([("right", "stop")]), Lab([], [("road", "ab")])])
        no_rows = Lab([("left", "go"), ("right", "stop")], [], [("right", "stop", ("idle",), "end")])
        self.assertEqual(pieces(no_rows), [Lab([("left", "go")]), Lab(
            [("right", "stop")], [], [("right", "stop", ("idle",), "end")])])

    def test_one_piece(self):
        self.assertEqual(pieces(post()), [post()])

    def test_which_machines_hang_together(self):
        for pairs, told in (
                ([], ["one", "two", "three", "x", "y", "z"]),
                ([("one", "x"), ("two", "y")], ["one x", "two y", "three", "z"]),
                ([("one", "x"), ("three", "x")], ["one three x", "two", "y", "z"]),
                ([("three", "z"), ("two", "z"), ("one", "y")], ["one y", "two three z", "x"]),
                ([("one", "x"), ("three", "x"), ("two", "y")], ["one three x", "two y", "z"]),
                ([("one", "x"), ("two", "y"), ("three", "y"), ("three", "x")], ["one two three x y", "z"]),
                ([("three", "x"), ("two", "x"), ("two", "z"), ("one", "z")], ["one two three x z", "y"]),
                ([("two", "z"), ("two", "y"), ("one", "y"), ("three", "z")], ["one two three y z", "x"]),
                ([("two", "x"), ("two", "y"), ("two", "z")], ["one", "two x y z", "three"]),
                ([("three", "x"), ("three", "z"), ("one", "y")], ["one y", "two", "three x z"])):
            self.assertEqual(self.names(sends(*pairs)), told)

    def test_each_act_names_its_row(self):
        for act in (("send", "road", "a"), ("take", "road", "b"), ("bare", "road")):
            lab = Lab([("left", "go"), ("right", "stop")], [("road", "")], [
                ("left", "go", act, "end"), ("right", "stop", ("bare", "road"), "stop")])
            self.assertEqual(pieces(lab), [lab])
        lab = Lab([("left", "go"), ("right", "stop")], [("road", "")], [
            ("left", "go", ("idle",), "end"), ("right", "stop", ("idle",), "stop")])
        self.assertEqual(self.names(lab), ["left", "right", "road"])

    def test_all_stands_in_the_labs_order(self):
        lab = Lab([("one", "p"), ("two", "q"), ("three", "r")], [("x", "a"), ("y", "b"), ("z", "c")], [
            ("three", "r", ("take", "z", "c"), "s"), ("two", "q", ("idle",), "q"),
            ("one", "p", ("bare", "x"), "p"), ("three", "s", ("send", "x", "d"), "r"),
            ("one", "p", ("bare", "x"), "p")])
        self.assertEqual(pieces(lab), [
            Lab([("one", "p"), ("three", "r")], [("x", "a"), ("z", "c")], [
                ("three", "r", ("take", "z", "c"), "s"), ("one", "p", ("bare", "x"), "p"),
                ("three", "s", ("send", "x", "d"), "r"), ("one", "p", ("bare", "x"), "p")]),
            Lab([("two", "q")], [], [("two", "q", ("idle",), "q")]), Lab([], [("y", "b")])])

    def test_many_as_told(self):
        counts = set()
        for seed in range(600):
            lab = any_lab(seed, moves=seed % 9, most=3)
            told = pieces(lab)
            counts.add(len(told))
            self.assertEqual([(one.machines(), one.rows(), one.moves()) for one in told], pieces_as_told(lab))
            self.assertEqual([one.__class__ for one in told], [Lab] * len(told))
        self.assertEqual(counts, {1, 2, 3, 4, 5, 6})

    def test_asked_again_a_new_list_is_told(self):
        lab = sends(("one", "x"))
        told = pieces(lab)
        told.clear()
        self.assertEqual(len(pieces(lab)), 5)
        self.assertEqual(lab, sends(("one", "x")))


if __name__ == "__main__":
    unittest.main()
