"""Moves and leaks in scenes."""

import unittest

from leakpost.errors import BadScene, LeakError, NoLetter, NoMove, NoRow
from leakpost.lab import Lab
from leakpost.moves import best, can, done, leaked, ways
from straight import all_scenes, any_lab, best_as_told, leads, lies_above, moved, post

BAD_SCENES = (
    ((), ()), (("go",), ("", "")), (("go", "stop", "go"), ("", "")), (("go", "stop"), ("",)),
    (("go", "stop"), ("", "", "")), (("stop", "go"), ("", "")), (("go", "wait"), ("", "")),
    (("go", "Stop"), ("", "")), (("go", "stop"), ("A", "")), (("go", "stop"), ("", "a b")),
)
BAD_PLACES = (-1, 6, 7, 400, -6, -7, 10 ** 29, -10 ** 29)


def at_stands(left, right, road="", back=""):
    return ((left, right), (road, back))


class TestEachAct(unittest.TestCase):
    def setUp(self):
        self.lab = post()

    def test_send(self):
        here, there = at_stands("go", "stop", "ab", "b"), at_stands("wait", "stop", "aba", "b")
        self.assertIs(can(self.lab, here, 0), True)
        self.assertEqual(done(self.lab, here, 0), there)
        self.assertEqual(best(self.lab, here, 0), there)

    def test_take_of_the_first_letter(self):
        here, there = at_stands("go", "stop", "aab", "b"), at_stands("go", "run", "ab", "b")
        self.assertIs(can(self.lab, here, 2), True)
        self.assertEqual(done(self.lab, here, 2), there)
        self.assertEqual(best(self.lab, here, 2), there)

    def test_take_of_a_later_letter_needs_leaks(self):
        here = at_stands("go", "stop", "bbaba", "b")
        self.assertIs(can(self.lab, here, 2), False)
        with self.assertRaises(NoMove):
            done(self.lab, here, 2)
        self.assertEqual(best(self.lab, here, 2), at_stands("go", "run", "ba", "b"))

    def test_take_of_a_letter_that_is_not_there(self):
        for road in ("", "b", "bbbb"):
            here = at_stands("go", "stop", road, "a")
            self.assertIs(can(self.lab, here, 2), False)
            self.assertIsNone(best(self.lab, here, 2))
            with self.assertRaises(NoMove) as caught:
                done(self.lab, here, 2)
            self.assertEqual(caught.exception.at, -1)

    def test_bare(self):
        empty, full = at_stands("go", "run", "", "b"), at_stands("go", "run", "ab", "b")
        self.assertIs(can(self.lab, empty, 4), True)
        self.assertIs(can(self.lab, full, 4), False)
        self.assertEqual(done(self.lab, empty, 4), at_stands("go", "end", "", "b"))
        self.assertEqual(best(self.lab, full, 4), at_stands("go", "end", "", "b"))
        with self.assertRaises(NoMove):
            done(self.lab, full, 4)

    def test_idle(self):
        here = at_stands("wait", "stop", "ab", "b")
        self.assertIs(can(self.lab, here, 5), True)
        self.assertEqual(done(self.lab, here, 5), at_stands("go", "stop", "ab", "b"))
        self.assertEqual(best(self.lab, here, 5), at_stands("go", "stop", "ab", "b"))

    def test_another_start(self):
        here = at_stands("wait", "end", "ab", "b")
        for place in (0, 2, 3, 4):
            self.assertIs(can(self.lab, here, place), False)
            self.assertIsNone(best(self.lab, here, place))
            with self.assertRaises(NoMove):
                done(self.lab, here, place)

    def test_start_and_end_alike(self):
        lab = Lab([("m", "a")], [("r", "")], [("m", "a", ("send", "r", "b"), "a")])
        self.assertEqual(done(lab, (("a",), ("b" * 60,)), 0), (("a",), ("b" * 61,)))

    def test_ways(self):
        self.assertEqual(ways(self.lab, at_stands("go", "stop", "ba")), [0, 2])
        self.assertEqual(ways(self.lab, at_stands("go", "stop", "b")), [0])
        self.assertEqual(ways(self.lab, at_stands("wait", "run", "ab", "b")), [1, 3, 4, 5])
        self.assertEqual(ways(self.lab, at_stands("wait", "run", "ab", "a")), [3, 4, 5])
        self.assertEqual(ways(Lab(), ((), ())), [])
        self.assertEqual(ways(Lab([("m", "a")]), (("a",), ())), [])

    def test_ways_are_a_new_list(self):
        here = at_stands("go", "stop", "ba")
        ways(self.lab, here).clear()
        self.assertEqual(ways(self.lab, here), [0, 2])


class TestLeaked(unittest.TestCase):
    def test_a_letter_at_each_place(self):
        here = at_stands("go", "stop", "abc", "xy")
        for at, word in enumerate(("bc", "ac", "ab")):
            self.assertEqual(leaked(post(), here, "road", at), at_stands("go", "stop", word, "xy"))
        self.assertEqual(leaked(post(), here, "back", 1), at_stands("go", "stop", "abc", "x"))
        self.assertEqual(leaked(post(), at_stands("go", "stop", "", "z"), "back", 0), at_stands("go", "stop"))

    def test_no_such_letter(self):
        here = at_stands("go", "stop", "abc", "")
        for row, at in (("road", 3), ("road", -1), ("road", -3), ("road", 10 ** 29), ("back", 0), ("back", -1)):
            with self.assertRaises(NoLetter) as caught:
                leaked(post(), here, row, at)
            self.assertEqual(caught.exception.at, -1)

    def test_no_such_row_goes_ahead_whatever_the_place_is(self):
        for row in ("up", "", "left", "Road"):
            for at in (0, 1, -1, 400):
                with self.assertRaises(NoRow):
                    leaked(post(), at_stands("go", "stop", "abc"), row, at)

    def test_bad_scenes_go_first(self):
        for scene in BAD_SCENES:
            for row, at in (("road", 0), ("up", 0), ("road", -1), ("up", -1)):
                with self.assertRaises(BadScene):
                    leaked(post(), scene, row, at)


class TestRefusals(unittest.TestCase):
    def test_bad_scenes_go_ahead_of_bad_places(self):
        for scene in BAD_SCENES:
            for place in (0, 5) + BAD_PLACES:
                for ask in (can, done, best):
                    with self.assertRaises(BadScene) as caught:
                        ask(post(), scene, place)
                    self.assertEqual(caught.exception.at, -1)
            with self.assertRaises(BadScene):
                ways(post(), scene)

    def test_bad_places(self):
        for place in BAD_PLACES:
            for ask in (can, done, best):
                with self.assertRaises(NoMove) as caught:
                    ask(post(), post().begin(), place)
                self.assertEqual(caught.exception.at, -1)

    def test_labs_without_moves(self):
        for lab in (Lab(), Lab([("m", "a")], [("r", "b")])):
            for place in (0, -1):
                for ask in (can, done, best):
                    with self.assertRaises(NoMove):
                        ask(lab, lab.begin(), place)

    def test_by_names(self):
        lab, here = post(), post().begin()
        self.assertIs(can(place=0, scene=here, lab=lab), True)
        self.assertEqual(done(place=0, scene=here, lab=lab), best(place=0, scene=here, lab=lab))
        self.assertEqual(ways(scene=here, lab=lab), [0, 2])
        self.assertEqual(leaked(at=1, row="road", scene=here, lab=lab), at_stands("go", "stop", "a"))


class TestAsTold(unittest.TestCase):
    def test_many_labs(self):
        for seed in range(12):
            lab = any_lab(seed)
            for scene in all_scenes(lab):
                self.assertEqual(
                    ways(lab, scene), [place for place in range(len(lab)) if leads(lab, scene, place)])
                for place in range(len(lab)):
                    self.one_move(lab, scene, place)

    def one_move(self, lab, scene, place):
        told = moved(lab, scene, place)
        self.assertIs(can(lab, scene, place), told is not None)
        high = best(lab, scene, place)
        self.assertEqual(high, best_as_told(lab, scene, place))
        try:
            self.assertEqual(done(lab, scene, place), told)
            self.assertTrue(lies_above(high, told))
        except LeakError as error:
            self.assertIsInstance(error, NoMove)
            self.assertIsNone(told)

    def test_nothing_changes_the_lab(self):
        lab = post()
        for scene in all_scenes(lab):
            for place in ways(lab, scene):
                best(lab, scene, place)
        self.assertEqual(lab, post())
        self.assertEqual(lab.begin(), post().begin())


if __name__ == "__main__":
    unittest.main()
