"""Runs: played deed by deed, counted, and made of moves at their best."""

import unittest

from leakpost.errors import BadScene, NoMove
from leakpost.lab import Lab
from leakpost.moves import best, ways
from leakpost.runs import best_run, count, play
from straight import all_scenes, any_lab, moved, post

RUN = [("move", 0), ("move", 2), ("leak", "road", 1), ("leak", "road", 0), ("move", 4), ("move", 5)]
SCENES = [
    (("go", "stop"), ("ab", "")), (("wait", "stop"), ("aba", "")), (("wait", "run"), ("ba", "")),
    (("wait", "run"), ("b", "")), (("wait", "run"), ("", "")), (("wait", "end"), ("", "")), (("go", "end"), ("", "")),
]
BAD_SCENES = (
    ((), ()), (("go",), ("", "")), (("go", "stop"), ("",)), (("stop", "go"), ("", "")), (("go", "stop"), ("A", "")),
)
# None of these can be done at the begin or anywhere in the run.
NO_DEEDS = (
    ("move", -1), ("move", 6), ("move", 400), ("move", 10 ** 29), ("move", -6), ("move", 3 - 9),
    ("leak", "up", 0), ("leak", "", 0), ("leak", "left", 0), ("leak", "Road", 0), ("leak", "road", 3),
    ("leak", "road", -1), ("leak", "road", 10 ** 29), ("leak", "back", 0), ("leak", "back", -1), ("leak", "up", -1),
)


class TestPlay(unittest.TestCase):
    def test_scenes_from_the_begin_on(self):
        self.assertEqual(play(post(), RUN), SCENES)
        self.assertEqual(play(post(), []), SCENES[:1])
        self.assertEqual(play(post(), ()), SCENES[:1])
        self.assertEqual(play(Lab(), []), [((), ())])

    def test_scenes_from_a_told_one_on(self):
        for at in range(len(RUN) + 1):
            self.assertEqual(play(post(), RUN[at:], scene=SCENES[at]), SCENES[at:])
        self.assertEqual(play(post(), RUN, scene=None), SCENES)

    def test_a_leak_at_each_place(self):
        here = (("go", "stop"), ("abc", ""))
        for at, word in enumerate(("bc", "ac", "ab")):
            self.assertEqual(play(post(), [("leak", "road", at)], scene=here)[1], (("go", "stop"), (word, "")))

    def test_nothing_leaks_by_itself(self):
        here = (("go", "stop"), ("ba", ""))
        with self.assertRaises(NoMove) as caught:
            play(post(), [("move", 2)], scene=here)
        self.assertEqual(caught.exception.at, 0)

    def test_a_run_bent_in_one_place(self):
        for at in range(len(RUN) + 1):
            for deed in NO_DEEDS:
                for run in (RUN[:at] + [deed], RUN[:at] + [deed] + RUN[at:], RUN[:at] + [deed, deed]):
                    with self.assertRaises(NoMove) as caught:
                        play(post(), run)
                    self.assertEqual(caught.exception.at, at)

    def test_a_deed_left_out(self):
        # First the letter to leak is lacking, then the machine isn't there, then the row isn't bare.
        for left_out, at in ((0, 1), (1, 3), (2, 3), (3, 3)):
            with self.assertRaises(NoMove) as caught:
                play(post(), RUN[:left_out] + RUN[left_out + 1:])
            self.assertEqual(caught.exception.at, at)
        self.assertEqual(play(post(), RUN[:4] + RUN[5:])[-1], (("go", "run"), ("", "")))

    def test_bad_scenes_go_first(self):
        for scene in BAD_SCENES:
            for run in ([], RUN, [("move", -1)]):
                with self.assertRaises(BadScene) as caught:
                    play(post(), run, scene=scene)
                self.assertEqual(caught.exception.at, -1)

    def test_labs_without_moves_machines_or_rows(self):
        for lab in (Lab(), Lab([("m", "a")]), Lab(rows=[("r", "")])):
            for deed in (("move", 0), ("leak", "r", 0), ("leak", "road", 0)):
                with self.assertRaises(NoMove):
                    play(lab, [deed])
        self.assertEqual(play(Lab(rows=[("r", "ab")]), [("leak", "r", 0)]), [((), ("ab",)), ((), ("b",))])

    def test_lists_and_names(self):
        run = list(RUN)
        told = play(run=run, lab=post(), scene=None)
        told.clear()
        self.assertEqual(run, RUN)
        self.assertEqual(play(post(), run), SCENES)
        with self.assertRaises(TypeError):
            play(post(), RUN, SCENES[0])

    def test_long_runs(self):
        lab = Lab([("m", "a")], [("r", "")], [("m", "a", ("send", "r", "x"), "a")])
        self.assertEqual(play(lab, [("move", 0)] * 400)[-1], (("a",), ("x" * 400,)))


class TestCount(unittest.TestCase):
    def test_moves_are_counted_and_leaks_are_not(self):
        self.assertEqual(count([]), 0)
        self.assertEqual(count(()), 0)
        self.assertEqual(count(RUN), 4)
        self.assertEqual(count([("leak", "road", 0)] * 7), 0)
        self.assertEqual(count([("move", 0)] * 400), 400)
        self.assertEqual(count(run=[("leak", "move", 0), ("move", -5), ("leak", "up", 9)]), 1)


class TestBestRun(unittest.TestCase):
    def test_nothing_leaks_ahead_of_send_and_idle(self):
        self.assertEqual(best_run(post(), [0, 5, 0]), [("move", 0), ("move", 5), ("move", 0)])

    def test_ahead_of_a_take_what_stands_ahead_leaks(self):
        leak = ("leak", "road", 0)
        for word, many in (("a", 0), ("ba", 1), ("bbab", 2), ("bcbaa", 3)):
            here = (("go", "stop"), (word, "b"))
            self.assertEqual(best_run(post(), [2], scene=here), [leak] * many + [("move", 2)])

    def test_ahead_of_a_bare_all_leaks(self):
        for word in ("", "a", "abab"):
            here = (("go", "run"), (word, "bb"))
            self.assertEqual(
                best_run(post(), [4], scene=here), [("leak", "road", 0)] * len(word) + [("move", 4)])

    def test_the_begin_where_no_scene_is_told(self):
        told = [("move", 2), ("leak", "road", 0), ("move", 4)]
        self.assertEqual(best_run(post(), [2, 4]), told)
        self.assertEqual(best_run(post(), (2, 4), scene=None), told)
        self.assertEqual(best_run(post(), []), [])
        self.assertEqual(best_run(Lab(), []), [])

    def test_no_move(self):
        good = [0, 2, 4, 5]
        for at in range(len(good) + 1):
            # Place 3 is for the right machine at run, where it is not but ahead of place 4.
            for bad in (-1, 6, 400, -6, 10 ** 29) + (() if at == 2 else (3,)):
                for places in (good[:at] + [bad], good[:at] + [bad] + good[at:], good[:at] + [bad, bad]):
                    with self.assertRaises(NoMove) as caught:
                        best_run(post(), places)
                    self.assertEqual(caught.exception.at, at)
        with self.assertRaises(NoMove) as caught:
            best_run(post(), [2], scene=(("go", "stop"), ("bb", "")))
        self.assertEqual(caught.exception.at, 0)
        with self.assertRaises(NoMove):
            best_run(Lab(), [0])

    def test_bad_scenes_go_first(self):
        for scene in BAD_SCENES:
            for places in ([], [0], [-1]):
                with self.assertRaises(BadScene):
                    best_run(post(), places, scene=scene)

    def test_lists_and_names(self):
        places = [0, 2]
        best_run(places=places, lab=post(), scene=SCENES[0]).clear()
        self.assertEqual(places, [0, 2])
        self.assertEqual(best_run(post(), places), [("move", 0), ("move", 2)])
        with self.assertRaises(TypeError):
            best_run(post(), places, SCENES[0])

    def test_many_as_told(self):
        for seed in range(10):
            lab = any_lab(seed)
            for scene in all_scenes(lab):
                for first in ways(lab, scene):
                    middle = best(lab, scene, first)
                    for other in ways(lab, middle):
                        self.one_run(lab, scene, [first, other], best(lab, middle, other))

    def one_run(self, lab, scene, places, end):
        run = best_run(lab, places, scene=scene)
        self.assertEqual([deed[1] for deed in run if deed[0] == "move"], places)
        self.assertTrue(all(deed[2] == 0 for deed in run if deed[0] == "leak"))
        self.assertEqual(count(run), 2)
        scenes = play(lab, run, scene=scene)
        self.assertEqual(scenes[-1], end)
        for deed, here, there in zip(run, scenes, scenes[1:]):
            if deed[0] == "move":
                self.assertEqual(moved(lab, here, deed[1]), there)


if __name__ == "__main__":
    unittest.main()
