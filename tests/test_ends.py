"""Runs that end and runs that go on for ever."""

import itertools
import time
import unittest

from leakpost import ends as ends_file
from leakpost.ends import ends, shows_goes
from leakpost.errors import Heavy
from leakpost.lab import Lab
from leakpost.moves import best, ways
from straight import any_lab, best_as_told, lies_above, post


def machine(moves, *, first="a", word=""):
    """A lab of one machine and one row, of moves (start, act's word and letter, end)."""
    acts = {"s": "send", "t": "take", "b": "bare", "i": "idle"}
    told = []
    for start, act, end in moves:
        things = (acts[act[0]],) + (() if act == "i" else ("r",)) + tuple(act[1:])
        told.append(("m", start, things, end))
    return Lab([("m", first)], [("r", word)], told)


def chain(*many):
    """From stand to stand as many sends of unlike letters as told, so that scenes multiply."""
    return [("abcdef"[at], "s" + letter, "abcdef"[at + 1]) for at, size in enumerate(many)
            for letter in "uvwxyz"[:size]]


def has_ring(scenes):
    """Whether the last one of a run's scenes lies above an earlier one."""
    return any(lies_above(scenes[-1], low) for low in scenes[:-1])


def ends_as_told(lab, most):
    """What the document says, of all runs one by one."""
    runs = [[lab.begin()]]
    for at in range(most + 1):
        if len({run[-1] for run in runs}) > 60:
            return ("heavy", at)
        if not runs:
            return ("ends", at - 1)
        if any(has_ring(run) for run in runs):
            return ("goes", at)
        if at == most:
            return ("heavy", at)
        runs = [run + [best(lab, run[-1], place)] for run in runs for place in ways(lab, run[-1])]
    return None


class Asking(unittest.TestCase):
    def heavy(self, lab, at, **more):
        with self.assertRaises(Heavy) as caught:
            ends(lab, **more)
        self.assertEqual(caught.exception.at, at)

    def goes(self, lab, many, **more):
        """That it goes by so many moves; tells lead and ring."""
        word, lead, ring = ends(lab, **more)
        self.assertEqual(word, "goes")
        self.assertIsInstance(lead, list)
        self.assertIsInstance(ring, list)
        self.assertEqual(len(lead) + len(ring), many)
        self.assertIs(shows_goes(lab, lead, ring), True)
        return (lead, ring)


class TestEnds(Asking):
    def test_the_constant(self):
        self.assertEqual(ends_file.MOST_RUN, 6)

    def test_labs_without_moves(self):
        for lab in (Lab(), Lab([("m", "a")]), Lab(rows=[("r", "ab")]), machine([], word="abc")):
            self.assertEqual(ends(lab), ("ends", 0))
            self.assertEqual(ends(lab, most=1), ("ends", 0))
            self.heavy(lab, 0, most=0)

    def test_moves_that_can_never_be_done(self):
        self.assertEqual(ends(machine([("b", "i", "a"), ("a", "tz", "a")], word="xy")), ("ends", 0))

    def test_chains(self):
        for many in range(6):
            lab = machine([("abcdef"[at], "i", "abcdef"[at + 1]) for at in range(many)])
            self.assertEqual(ends(lab), ("ends", many))
            self.assertEqual(ends(lab, most=400), ("ends", many))
            self.assertEqual(ends(lab, most=many + 1), ("ends", many))
            self.heavy(lab, many, most=many)
            self.heavy(lab, 0, most=0)

    def test_takes_use_words_up(self):
        for many in range(9):
            lab = machine([("a", "tx", "a")], word="x" * many)
            if many < 6:
                self.assertEqual(ends(lab), ("ends", many))
            else:
                self.heavy(lab, 6)
            self.assertEqual(ends(lab, most=9), ("ends", many))

    def test_most_moves_where_leaks_are_for_the_best(self):
        lab = machine([("a", "tx", "a"), ("a", "ty", "a")], word="xyxyxyxy")
        self.assertEqual(ends(lab, most=20), ("ends", 8))

    def test_rings_at_once(self):
        for moves in ([("a", "i", "a")], [("a", "sx", "a")]):
            for more in ({}, {"most": 1}, {"most": 400}):
                self.assertEqual(self.goes(machine(moves), 1, **more), ([], [0]))
            self.heavy(machine(moves), 0, most=0)

    def test_a_bare_that_first_empties_its_row(self):
        self.assertEqual(self.goes(machine([("a", "b", "a")]), 1), ([], [0]))
        self.assertEqual(self.goes(machine([("a", "b", "a")], word="x"), 2), ([0], [0]))
        self.heavy(machine([("a", "b", "a")], word="x"), 1, most=1)

    def test_lead_and_ring_are_told_in_order(self):
        lab = machine([("d", "i", "b"), ("a", "i", "b"), ("c", "i", "d"), ("b", "i", "c")])
        self.assertEqual(self.goes(lab, 4), ([1], [3, 2, 0]))
        self.heavy(lab, 3, most=3)

    def test_a_later_scene_that_lies_above_needs_not_be_the_same(self):
        self.assertEqual(self.goes(machine([("a", "sx", "b"), ("b", "i", "a")], word="y"), 2), ([], [0, 1]))
        lab = machine([("a", "tx", "b"), ("b", "sy", "c"), ("c", "sy", "b")], word="x")
        self.assertEqual(self.goes(lab, 3), ([0], [1, 2]))

    def test_send_and_take_back(self):
        self.assertEqual(self.goes(machine([("a", "sx", "b"), ("b", "tx", "a")]), 2), ([], [0, 1]))
        lab = machine([("a", "sx", "b"), ("b", "tx", "a")], word="y")
        self.assertEqual(self.goes(lab, 4), ([0, 1], [0, 1]))

    def test_scenes_on_unlike_ways_make_no_ring(self):
        # The scene at c comes by one move and by two; no run comes to it twice.
        lab = machine([("a", "i", "b"), ("b", "i", "c"), ("a", "i", "c"), ("c", "i", "d")])
        self.assertEqual(ends(lab), ("ends", 3))
        higher = machine([("a", "i", "c"), ("a", "sx", "b"), ("b", "sx", "c")])
        self.assertEqual(ends(higher), ("ends", 2))

    def test_a_ring_on_one_of_two_ways_to_a_scene(self):
        # Three moves lead to d by b and c, too, but only by e does a run come to d twice.
        lab = machine([(start, "i", end) for start, end in ("ab", "ad", "bc", "de", "cd", "ed")])
        self.assertEqual(self.goes(lab, 3), ([1], [3, 5]))

    def test_sixty_scenes_and_one_more(self):
        self.assertEqual(ends(machine(chain(3, 4, 5))), ("ends", 3))
        aside = [("a", "i", "e"), ("e", "i", "f"), ("f", "i", "d")]
        self.heavy(machine(chain(3, 4, 5) + aside), 3)
        self.heavy(machine(chain(3, 4, 5) + aside), 3, most=3)
        self.heavy(machine(chain(3, 4, 5) + aside), 2, most=2)
        self.assertEqual(ends(machine(chain(3, 4, 4) + aside)), ("ends", 3))
        self.heavy(machine(chain(4, 4, 4)), 3, most=400)

    def test_unlike_scenes_are_counted_once(self):
        twice = chain(4, 4, 2)
        self.assertEqual(ends(machine(twice + twice)), ("ends", 3))

    def test_too_many_scenes_go_ahead_of_a_ring(self):
        ring = [("a", "i", "e"), ("e", "i", "f"), ("f", "i", "a")]
        self.goes(machine(chain(3, 4, 4) + ring), 3)
        self.heavy(machine(chain(3, 4, 5) + ring), 3)
        self.goes(machine(chain(3, 4, 5) + ring[:2] + [("e", "i", "a")]), 2)

    def test_two_machines_and_rows(self):
        lab = post()
        lead, ring = self.goes(lab, 2)
        self.assertEqual((lead, ring), ([], [0, 5]))

    def test_asked_again_the_same_is_told(self):
        lab = machine([("a", "i", "a"), ("a", "i", "a"), ("a", "sx", "a")])
        told = ends(lab)
        for each in range(5):
            again = ends(lab)
            self.assertEqual(again, told)
            again[1].append(0)
            again[2].clear()

    def test_by_names(self):
        self.assertEqual(ends(lab=Lab(), most=5), ("ends", 0))
        with self.assertRaises(TypeError):
            ends(Lab(), 5)

    def test_many_as_told(self):
        seen = set()
        for seed in range(150):
            lab = any_lab(seed, moves=3 + seed % 4, stands="pqrs", most_word=4, most=2 + seed % 2)
            for most in (0, 1, 2, 4, 6):
                told = ends_as_told(lab, most)
                seen.add(told)
                if told[0] == "heavy":
                    self.heavy(lab, told[1], most=most)
                elif told[0] == "goes":
                    self.goes(lab, told[1], most=most)
                else:
                    self.assertEqual(ends(lab, most=most), told)
        self.assertGreater(len(seen), 9)

    def test_told_soon(self):
        lab = Lab(
            [(name, "a") for name in "klm"], [(name, "xyxyxyxy") for name in "rst"],
            [(name, "abcdef"[at], ("take", row, "xy"[at % 2]), "bcdefa"[at])
             for name, row in zip("klm", "rst") for at in range(6)])
        before = time.perf_counter()
        for most in (6, 400):
            self.assertEqual(ends_kind(lab, most), ends_kind(lab, most))
        self.assertLess(time.perf_counter() - before, 4)

    def test_long_runs_are_told_soon(self):
        # A machine counts the letters of two rows down, each of the one for many of the other one.
        lab = Lab([("m", "a")], [("r", "xxxxxxxx"), ("s", "yyyyyyyy"), ("t", "")], [
            ("m", "a", ("take", "r", "x"), "b"), ("m", "b", ("send", "t", "x"), "a"),
            ("m", "a", ("bare", "r"), "c"), ("m", "c", ("take", "s", "y"), "d"),
            ("m", "d", ("take", "t", "x"), "e"), ("m", "e", ("send", "r", "x"), "d"), ("m", "d", ("bare", "t"), "a")])
        before = time.perf_counter()
        ends_kind(lab, 400)
        self.assertLess(time.perf_counter() - before, 2)


def ends_kind(lab, most):
    try:
        return ends(lab, most=most)
    except Heavy as error:
        return ("heavy", error.at)


class TestShowsGoes(unittest.TestCase):
    def test_good_ones_of_fewest_moves_or_not(self):
        lab = machine([("a", "i", "b"), ("b", "i", "b"), ("b", "sx", "a")])
        for lead, ring in (([0], [1]), ([0, 1], [1, 1]), ([], [0, 2]), ([0], [2, 0]), ([0, 2, 0, 1], [1])):
            self.assertIs(shows_goes(lab, lead, ring), True)

    def test_bad_ones(self):
        lab = machine([("a", "i", "b"), ("b", "i", "b"), ("b", "tx", "a")], word="x")
        for lead, ring in (
                ([], []), ([0], []), ([], [0]), ([], [1]), ([1], [1]), ([0, 0], [1]), ([], [0, 2]), ([0], [2, 0]),
                ([3], [1]), ([-1], [1]), ([0], [3]), ([0], [-2]), ([0], [1, 10 ** 29]), ([-3], [1]), ([0], [1, 0])):
            self.assertIs(shows_goes(lab, lead, ring), False)
        self.assertIs(shows_goes(Lab(), [], []), False)
        self.assertIs(shows_goes(Lab(), [], [0]), False)
        self.assertIs(shows_goes(Lab(), [0], [0]), False)

    def test_lists_stay_and_names(self):
        lab, lead, ring = machine([("a", "i", "a")]), [0], [0, 0]
        self.assertIs(shows_goes(ring=ring, lead=lead, lab=lab), True)
        self.assertEqual((lead, ring), ([0], [0, 0]))

    def test_many_as_told(self):
        for seed in range(12):
            lab = any_lab(seed, moves=3, stands="pq")
            places = [list(row) for many in range(3) for row in itertools.product(range(-1, 4), repeat=many)]
            for lead, ring in itertools.product(places, repeat=2):
                self.assertIs(shows_goes(lab, lead, ring), self.told(lab, lead, ring))

    def told(self, lab, lead, ring):
        scenes = [lab.begin()]
        for place in lead + ring:
            after = best_as_told(lab, scenes[-1], place) if 0 <= place < len(lab) else None
            if after is None:
                return False
            scenes.append(after)
        return len(ring) > 0 and lies_above(scenes[-1], scenes[len(lead)])


if __name__ == "__main__":
    unittest.main()
