"""Bodies compiled to moves, by their ways."""

import itertools
import unittest

from leakpost.bodies import parts
from leakpost.compiled import compiled
from leakpost.errors import BadBody, BadName
from leakpost.lab import Lab
from straight import any_body

SKIP = ("skip",)
A, B, C = ("send", "road", "a"), ("take", "road", "b"), ("bare", "back")


def ways_of_body(body, long):
    """All ways of the body of at most so many acts."""
    if body[0] == "skip":
        return {()}
    if body[0] == "then":
        return joined(ways_of_body(body[1], long), ways_of_body(body[2], long), long)
    if body[0] == "or":
        return ways_of_body(body[1], long) | ways_of_body(body[2], long)
    if body[0] == "again":
        once = ways_of_body(body[1], long)
        told = {()}
        for each in range(long):
            told |= joined(told, once, long)
        return told
    return {(body,)} if long > 0 else set()


def joined(ones, others, long):
    """Each one with each other one behind it, of at most so many acts."""
    return {one + other for one in ones for other in others if len(one) + len(other) <= long}


def ways_of_moves(first, moves, last, long):
    """The acts, idle ones left out, along all ways of moves from first to last, of at most so many acts."""
    seen = {(first, ())}
    fresh = [(first, ())]
    while fresh:
        stand, way = fresh.pop()
        for machine, start, act, end in moves:
            after = (end, way if act == ("idle",) else way + (act,))
            if start == stand and len(after[1]) <= long and after not in seen:
                seen.add(after)
                fresh.append(after)
    return {way for stand, way in seen if stand == last}


class TestCompiled(unittest.TestCase):
    def good(self, body, *, long=4, stem="s", machine="left"):
        """That the compiled body is as it should be."""
        first, moves, last = told = compiled(machine, body, stem=stem)
        self.assertEqual((told.__class__, moves.__class__), (tuple, list))
        self.assertEqual(ways_of_moves(first, moves, last, long), ways_of_body(body, long))
        stands = {first, last}
        for move in moves:
            owner, start, act, end = move
            self.assertEqual((owner, move.__class__), (machine, tuple))
            self.assertIn(act, [one for one in parts(body) if one[0] in ("send", "take", "bare")] + [("idle",)])
            self.assertNotEqual(end, first)
            self.assertNotEqual(start, last)
            stands |= {start, end}
        for stand in stands:
            self.assertRegex(stand, rf"\A{stem}[a-z]\Z")
        many = len(parts(body))
        self.assertLessEqual(len(moves), 3 * many + 2)
        self.assertLessEqual(len(stands), many + 2)
        self.assertNotEqual(first, last)

    def test_single_ones(self):
        for body in (SKIP, A, B, C, ("bare", "skip"), ("send", "idle", "i")):
            self.good(body)

    def test_built_ones(self):
        for x, y in itertools.product((SKIP, A, B, ("again", A), ("then", A, B), ("or", A, B)), repeat=2):
            for body in (("then", x, y), ("or", x, y), ("again", ("then", x, y)), ("again", ("or", x, y))):
                self.good(body)
                self.good(("then", body, C))
                self.good(("or", C, body))
                self.good(("again", body))

    def test_agains_side_by_side(self):
        # Behind the second act the first one's round must not be gone once more.
        for body in (
                ("then", ("again", A), ("again", B)), ("or", ("again", A), ("again", B)),
                ("or", ("again", A), B), ("then", ("again", A), A), ("then", B, ("again", A)),
                ("again", ("again", ("again", A))), ("again", SKIP), ("again", ("again", SKIP)),
                ("again", ("then", ("again", A), ("again", B))), ("again", ("or", ("again", A), ("then", A, B))),
                ("then", ("or", A, ("again", B)), ("or", ("again", A), B))):
            self.good(body, long=5)

    def test_many(self):
        sizes = set()
        for seed in range(250):
            body = any_body(seed, rows=("in",), most=14)
            sizes.add(len(parts(body)))
            self.good(body, long=3)
        self.assertGreater(len(sizes), 10)

    def test_great_ones(self):
        full = ("then", ("then", ("or", A, B), ("or", B, C)), ("or", ("then", A, B), ("then", C, A)))
        body = ("again", ("or", full, ("again", ("or", ("again", A), ("then", B, SKIP)))))
        self.assertEqual(len(parts(body)), 24)
        self.good(body)
        deep = ("then", A, ("then", B, ("then", A, ("then", B, ("then", A, C)))))
        self.good(deep, long=6)
        thens = A
        for each in range(3):
            thens = ("then", thens, thens)
        self.good(("then", thens, ("then", A, ("then", A, B))), long=11)
        agains = ("again", ("again", ("again", A)))
        self.good(("or", ("then", agains, agains), ("then", agains, agains)), long=3)

    def test_other_stems_and_machines(self):
        body = ("then", ("again", A), ("or", SKIP, B))
        for stem in ("s", "a", "stem", "stemste"):
            for machine in ("m", "machinem", "s"):
                self.good(body, stem=stem, machine=machine)
        first, moves, last = compiled("left", body)
        self.assertEqual(compiled("left", body, stem="s"), (first, moves, last))
        self.assertEqual(compiled(body=body, machine="left"), (first, moves, last))

    def test_a_lab_takes_it(self):
        first, moves, last = compiled("left", ("then", ("again", A), ("or", C, B)))
        lab = Lab([("left", first)], [("road", ""), ("back", "")], moves)
        self.assertIn(last, lab.stands("left"))

    def test_asked_again_a_new_list_is_told(self):
        told = compiled("left", ("then", A, B))
        told[1].clear()
        self.assertEqual(len(compiled("left", ("then", A, B))[1]), 2)

    def test_refusals(self):
        for machine in ("", "Left", "leftleftl", "a b", "-", "1"):
            for body in (A, ("go",), ()):
                for stem in ("s", "", "S"):
                    with self.assertRaises(BadName) as caught:
                        compiled(machine, body, stem=stem)
                    self.assertEqual((caught.exception.at, caught.exception.word), (-1, "badname"))
        for stem in ("", "S", "stemstem", "a b", "-", "1", "s\n"):
            for body in (A, ("go",), ()):
                with self.assertRaises(BadName):
                    compiled("left", body, stem=stem)
        for body in (
                (), ("go",), ("idle",), ("then", A), ("again", "skip"), ("send", "Road", "a"), ("send", "road", "ab"),
                ("again",) * 2, ("again", ("again", ("again", ("again", ("again", ("again", A))))))):
            with self.assertRaises(BadBody) as caught:
                compiled("left", body)
            self.assertEqual((caught.exception.at, caught.exception.word), (-1, "badbody"))


if __name__ == "__main__":
    unittest.main()
