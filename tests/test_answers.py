"""Papers: whether wishes come or never come, and whether a paper is good."""

import itertools
import time
import unittest

from leakpost.answers import answer, shows
from leakpost.back import turned
from leakpost.errors import BadWish, Heavy
from leakpost.lab import Lab
from leakpost.runs import count, play
from leakpost.wishes import least_of
from straight import any_lab, any_wishes, fewest, granted, lies_above, moved, next_layer, post

NONE = ((), ())
# Stands e, d, .. a, one take of either letter from each to the one ahead: layers have 1, 3, 7, 15, 31 scenes.
DOUBLE = [("m", "bcde"[at // 2], ("take", "r", "xy"[at % 2]), "abcd"[at // 2]) for at in range(8)]
TO_A = [((("m", "a"),), ())]
BAD_WISHES = (
    ((("up", "go"),), ()), ((("left", "go"), ("left", "go")), ()), ((("left", "Go"),), ()), ((), (("up", ""),)),
    ((), (("road", "a"), ("road", "a"))), ((), (("road", "A"),)), ((), (("road", "aaaaaaaaa"),)),
)


def double(word):
    return Lab([("m", "e")], [("r", word)], DOUBLE)


def answer_as_told(lab, wishes, most, deep):
    """("comes", moves), ("never", scenes) or ("heavy", number), as the document says it."""
    last, layer = None, least_of(lab, wishes)
    for at in itertools.count():
        if len(layer) > most:
            return ("heavy", at)
        if any(lies_above(lab.begin(), scene) for scene in layer):
            return ("comes", at)
        if layer == last:
            return ("never", layer)
        if at == deep:
            return ("heavy", at)
        last, layer = layer, next_layer(lab, layer)


def answer_in_short(lab, wishes, **more):
    try:
        word, told = answer(lab, wishes, **more)
    except Heavy as error:
        return ("heavy", error.at)
    return (word, count(told) if word == "comes" else told)


def good_run(lab, wishes, run):
    """Whether the run is good, as the document says it."""
    scene = lab.begin()
    for deed in run:
        if deed[0] == "move":
            scene = moved(lab, scene, deed[1]) if 0 <= deed[1] < len(lab) else None
        else:
            scene = leaked_as_told(lab, scene, deed[1], deed[2])
        if scene is None:
            return False
    return any(granted(lab, wish, scene) for wish in wishes)


def leaked_as_told(lab, scene, row, at):
    words = dict(zip([name for name, word in lab.rows()], scene[1]))
    if row not in words or not 0 <= at < len(words[row]):
        return None
    words[row] = words[row][:at] + words[row][at + 1:]
    return (scene[0], tuple(words.values()))


def good_scenes(lab, wishes, scenes):
    """Whether the scenes are good, as the document says it."""
    if not all(lab.has(scene) for scene in scenes):
        return False
    if any(lies_above(lab.begin(), scene) for scene in scenes):
        return False
    told = [turned(lab, place, scene) for scene in scenes for place in range(len(lab))]
    needed = least_of(lab, wishes) + [scene for scene in told if scene is not None]
    return all(any(lies_above(one, scene) for scene in scenes) for one in needed)


class TestAnswer(unittest.TestCase):
    def heavy(self, at, *things, **more):
        with self.assertRaises(Heavy) as caught:
            answer(*things, **more)
        self.assertEqual(caught.exception.at, at)

    def test_it_comes_by_no_move(self):
        for wishes in ([NONE], [((("left", "go"),), (("road", "b"),))], [((("left", "up"),), ()), NONE]):
            self.assertEqual(answer(post(), wishes), ("comes", []))
            self.assertEqual(answer(post(), wishes, deep=0), ("comes", []))
        self.assertEqual(answer(Lab(), [NONE], most=1, deep=0), ("comes", []))

    def test_it_comes_by_moves_and_leaks(self):
        wish = ((("right", "end"),), (("back", "b"),))
        word, run = answer(post(), [wish])
        self.assertEqual((word, count(run)), ("comes", 5))
        self.assertTrue(good_run(post(), [wish], run))
        self.assertEqual(answer(post(), [((("right", "end"),), ())]), (
            "comes", [("move", 2), ("leak", "road", 0), ("move", 4)]))

    def test_letters_leak_only_where_a_take_or_bare_needs_it(self):
        self.assertEqual(answer(double("zxyzxz" + "y"), TO_A), ("comes", [
            ("leak", "r", 0), ("move", 6), ("move", 5), ("leak", "r", 0), ("move", 2), ("leak", "r", 0), ("move", 1)]))

    def test_it_never_comes(self):
        wishes = [((("right", "end"),), (("road", "b"),))]
        word, scenes = answer(post(), wishes)
        self.assertEqual(word, "never")
        self.assertEqual(scenes, sorted(scenes))
        self.assertTrue(good_scenes(post(), wishes, scenes))
        self.assertEqual(answer(Lab([("m", "a")], [], [("m", "b", ("idle",), "b")]), [((("m", "b"),), ())]), (
            "never", [(("b",), ())]))

    def test_no_wishes_and_wishes_in_vain(self):
        for lab in (Lab(), Lab([("m", "a")]), Lab(rows=[("r", "ab")]), post()):
            for deep in (1, 2, 40, 400):
                for most in (0, 1, 60, 400):
                    self.assertEqual(answer(lab, [], most=most, deep=deep), ("never", []))
            self.heavy(0, lab, [], deep=0)
            self.heavy(0, lab, (), most=0, deep=0)
        self.assertEqual(answer(post(), [((("left", "up"),), ())], most=0, deep=1), ("never", []))
        self.heavy(0, post(), [((("left", "up"),), ())], deep=0)

    def test_labs_without_machines_or_rows(self):
        rows = Lab(rows=[("r", "ab"), ("s", "")])
        self.assertEqual(answer(rows, [((), (("r", "b"),))]), ("comes", []))
        self.assertEqual(answer(rows, [((), (("s", "b"),))]), ("never", [((), ("", "b"))]))
        machines = Lab([("m", "a")], [], [("m", "a", ("idle",), "b"), ("m", "b", ("idle",), "c")])
        self.assertEqual(answer(machines, [((("m", "c"),), ())]), ("comes", [("move", 0), ("move", 1)]))

    def test_most_and_its_bounds(self):
        for lab, kind in ((double("xxxx"), ("comes", 4)), (double("xxx"), ("never", 31))):
            for most, at in ((0, 0), (1, 1), (2, 1), (3, 2), (6, 2), (7, 3), (14, 3), (15, 4), (30, 4)):
                self.heavy(at, lab, TO_A, most=most)
            for most in (31, 60, 400):
                word, told = answer(lab, TO_A, most=most)
                self.assertEqual((word, count(told) if word == "comes" else len(told)), kind)

    def test_deep_and_its_bounds(self):
        for deep in range(4):
            self.heavy(deep, double("xxxx"), TO_A, deep=deep)
            self.heavy(deep, double("xxx"), TO_A, deep=deep)
        for deep in (4, 5, 40, 400):
            self.assertEqual(answer(double("xxxx"), TO_A, deep=deep)[0], "comes")
        self.heavy(4, double("xxx"), TO_A, deep=4)
        for deep in (5, 6, 40, 400):
            self.assertEqual(answer(double("xxx"), TO_A, deep=deep)[0], "never")

    def test_most_goes_ahead_of_deep(self):
        self.heavy(2, double("xxx"), TO_A, most=6, deep=2)
        self.heavy(2, double("xxx"), TO_A, most=7, deep=2)
        self.heavy(0, double("xxx"), TO_A, most=0, deep=0)

    def test_too_many_scenes_go_ahead_of_the_begin(self):
        self.heavy(0, double(""), [NONE], most=4)
        self.assertEqual(answer(double(""), [NONE], most=5), ("comes", []))

    def test_most_and_deep_left_out(self):
        # Each letter costs a round of six moves, and five more lead to the wished stand.
        ring = [("m", one, ("idle",), other) for one, other in zip("abcde", "bcdef")]
        lab = Lab([("m", "a")], [("r", "")], ring + [("m", "f", ("send", "r", "x"), "a")])
        for many in range(1, 9):
            wish = [((("m", "f"),), (("r", "x" * many),))]
            needed = 6 * many + 5
            if needed <= 40:
                self.assertEqual(answer_in_short(lab, wish), ("comes", needed))
            else:
                self.heavy(40, lab, wish)
            self.assertEqual(answer_in_short(lab, wish, deep=400), ("comes", needed))

    def test_bad_wishes(self):
        for wish in BAD_WISHES:
            for wishes in ([wish], [NONE, wish], (wish, NONE)):
                for more in ({}, {"most": 0}, {"deep": 0}):
                    with self.assertRaises(BadWish):
                        answer(post(), wishes, **more)

    def test_asked_again_the_same_is_told_in_new_lists(self):
        for lab, wishes in ((double("xyxyxyxy"), TO_A), (double("xxx"), TO_A)):
            told = answer(lab, wishes)
            kept = (told[0], list(told[1]))
            told[1].clear()
            self.assertEqual(answer(lab, wishes), kept)
        self.assertEqual(TO_A, [((("m", "a"),), ())])

    def test_by_names(self):
        self.assertEqual(answer(wishes=[NONE], lab=Lab(), deep=3, most=2), ("comes", []))
        with self.assertRaises(TypeError):
            answer(Lab(), [NONE], 3)

    def test_more_wishes_than_told(self):
        wishes = [((("m", "e"),), (("r", "z" * many),)) for many in range(1, 9)] * 5 + TO_A
        self.assertEqual(answer_in_short(double("xyxy"), wishes), ("comes", 4))

    def test_many_as_told(self):
        seen = set()
        for seed in range(120):
            lab = any_lab(seed, moves=4 + seed % 9, most=2 + seed % 2)
            wishes = any_wishes(lab, seed + 31, most_word=4)
            for most, deep in ((60, 40), (400, 400), (3, 40), (60, 2), (8, 3)):
                told = answer_as_told(lab, wishes, most, deep)
                seen.add((told[0], told[1] if isinstance(told[1], int) else len(told[1])))
                self.assertEqual(answer_in_short(lab, wishes, most=most, deep=deep), told)
                if told[0] != "heavy":
                    self.assertIs(shows(lab, wishes, answer(lab, wishes, most=most, deep=deep)), True)
        self.assertGreater(len(seen), 15)

    def test_no_run_has_fewer_moves(self):
        seen = set()
        for seed in range(80):
            lab = any_lab(seed, moves=7, stands="pqr", most_word=3)
            wishes = any_wishes(lab, seed, most_word=2)
            word, told = answer(lab, wishes, most=400, deep=400)
            needed = fewest(lab, wishes, 3)
            seen.add((word, needed))
            if word == "never" or count(told) > 3:
                self.assertIsNone(needed)
            else:
                self.assertEqual(count(told), needed)
                self.assertTrue(good_run(lab, wishes, told))
        self.assertTrue({("comes", 0), ("comes", 1), ("comes", 2), ("comes", 3), ("never", None)} <= seen)


class TestShows(unittest.TestCase):
    def test_runs(self):
        wishes = [((("right", "end"),), ())]
        run = [("move", 2), ("leak", "road", 0), ("move", 4)]
        self.assertIs(shows(post(), wishes, ("comes", run)), True)
        self.assertIs(shows(post(), wishes, ("comes", [("move", 0)] + run[:2] + [("leak", "road", 0)] + run[2:])), True)
        self.assertIs(shows(post(), wishes, ("comes", run + [("move", 0)])), True)
        self.assertIs(shows(post(), wishes, ("comes", [])), False)
        self.assertIs(shows(post(), [], ("comes", [])), False)
        self.assertIs(shows(post(), [], ("comes", run)), False)
        self.assertIs(shows(post(), [NONE], ("comes", [])), True)
        self.assertIs(shows(Lab(), [NONE], ("comes", [])), True)

    def test_runs_bent_in_one_place(self):
        wishes = [((("right", "end"),), ()), ((("right", "run"),), (("back", "b"),))]
        deeds = [("move", place) for place in range(-2, 9)] + [("move", 10 ** 29)]
        deeds += [("leak", row, at) for row in ("road", "back", "up", "", "Road") for at in (-1, 0, 1, 2, 9)]
        for wish in wishes:
            word, run = answer(post(), [wish])
            for at in range(len(run)):
                for bent in [run[:at] + run[at + 1:], run[:at], run[at:]] + [
                        run[:at] + [deed] + run[at + more:] for deed in deeds for more in (0, 1)]:
                    self.assertIs(shows(post(), [wish], ("comes", bent)), good_run(post(), [wish], bent))

    def test_scenes(self):
        wishes = [((("m", "b"),), ())]
        lab = Lab([("m", "a")], [("r", "x")], [("m", "a", ("take", "r", "y"), "b")])
        good = [(("a",), ("y",)), (("b",), ("",))]
        self.assertIs(shows(lab, wishes, ("never", good)), True)
        self.assertIs(shows(lab, wishes, ("never", good[::-1] + good)), True)
        self.assertIs(shows(lab, wishes, ("never", good + [(("a",), ("xy",))])), True)
        self.assertIs(shows(lab, wishes, ("never", good + [(("a",), ("xx",))])), True)
        self.assertIs(shows(lab, wishes, ("never", good + [(("a",), ("x",))])), False)
        self.assertIs(shows(lab, wishes, ("never", good + [(("a",), ("",))])), False)
        self.assertIs(shows(lab, wishes, ("never", good[:1])), False)
        self.assertIs(shows(lab, wishes, ("never", good[1:])), False)
        self.assertIs(shows(lab, wishes, ("never", [])), False)
        self.assertIs(shows(lab, wishes, ("never", [(("a",), ("y",)), (("b",), ("x",))])), False)

    def test_scenes_that_are_none_of_the_labs(self):
        wishes = [((("m", "b"),), ())]
        lab = Lab([("m", "a")], [("r", "x")], [("m", "a", ("take", "r", "y"), "b")])
        good = [(("a",), ("y",)), (("b",), ("",))]
        for bad in (((), ()), (("a",), ()), ((), ("y",)), (("c",), ("y",)), (("",), ("y",)), (("A",), ("y",)),
                    (("a",), ("Y",)), (("a",), ("y", "y")), (("a", "a"), ("y",)), (("a",) * 8, ("y",) * 8),
                    (("road house",), ("y" * 60,)), (("a",), ("-",))):
            for scenes in ([bad] + good, good + [bad], [good[0], bad, good[1]]):
                self.assertIs(shows(lab, wishes, ("never", scenes)), False)
        self.assertIs(shows(lab, wishes, ("never", good + [(("a",), ("z" * 60,))])), True)

    def test_no_wishes(self):
        for lab in (Lab(), post(), Lab([("m", "a")]), Lab(rows=[("r", "")])):
            self.assertIs(shows(lab, [], ("never", [])), True)
            self.assertIs(shows(lab, [], ("never", [lab.begin()])), False)
        self.assertIs(shows(Lab(), [NONE], ("never", [])), False)
        self.assertIs(shows(Lab(), [NONE], ("never", [NONE])), False)

    def test_bad_wishes_go_first(self):
        for wish in BAD_WISHES:
            for paper in (("comes", []), ("comes", [("move", -1)]), ("never", []), ("never", [NONE])):
                for wishes in ([wish], [NONE, wish]):
                    with self.assertRaises(BadWish):
                        shows(post(), wishes, paper)

    def test_what_is_handed_in_stays(self):
        wishes = [((("right", "end"),), ())]
        run, scenes = [("move", 2), ("leak", "road", 0), ("move", 4)], [(("go", "end"), ("", ""))]
        shows(post(), wishes, ("comes", run))
        shows(lab=post(), wishes=wishes, paper=("never", scenes))
        self.assertEqual(run, [("move", 2), ("leak", "road", 0), ("move", 4)])
        self.assertEqual(scenes, [(("go", "end"), ("", ""))])
        self.assertEqual(wishes, [((("right", "end"),), ())])

    def test_scenes_bent_in_one_place(self):
        found = set()
        for seed in range(60):
            lab = any_lab(seed, moves=6)
            wishes = any_wishes(lab, seed + 3, most_word=3)
            word, told = answer(lab, wishes, most=400, deep=400)
            if word == "never" and len(told) < 40:
                for scenes in self.bent(lab, told):
                    good = good_scenes(lab, wishes, scenes)
                    found.add(good)
                    self.assertIs(shows(lab, wishes, ("never", scenes)), good)
        self.assertEqual(found, {True, False})

    def bent(self, lab, scenes):
        """The scenes with one of them gone, or with a stand or word of one of them changed."""
        for at, (stands, words) in enumerate(scenes):
            yield scenes[:at] + scenes[at + 1:]
            yield scenes + [(stands, tuple(word[1:] for word in words))]
            for row, word in enumerate(words):
                for other in (word + "a", "b" + word, word[1:], word[:-1]):
                    changed = words[:row] + (other,) + words[row + 1:]
                    yield scenes[:at] + [(stands, changed)] + scenes[at + 1:]
                    yield scenes + [(stands, changed)]
            for place, (name, first) in enumerate(lab.machines()):
                for stand in lab.stands(name):
                    changed = stands[:place] + (stand,) + stands[place + 1:]
                    yield scenes[:at] + [(changed, words)] + scenes[at + 1:]


class TestToldSoon(unittest.TestCase):
    def soon(self, lab, wishes, **more):
        before = time.perf_counter()
        told = answer_in_short(lab, wishes, **more)
        self.assertLess(time.perf_counter() - before, 2)
        return told

    def test_labs_of_many_moves(self):
        for seed in range(60):
            lab = any_lab(
                seed, moves=24, letters="abcdef"[:1 + seed % 6], stands="pqrstu"[:1 + seed % 5], most_word=8, most=3)
            wishes = any_wishes(lab, seed, letters="abcdef", most_word=8)
            self.soon(lab, wishes)
            self.soon(lab, wishes, most=400, deep=400)

    def test_layers_that_multiply(self):
        moves = [("m", "bcde"[at // 4], ("take", "r", "wxyz"[at % 4]), "abcd"[at // 4]) for at in range(16)]
        moves += [("m", "f", ("take", "r", letter), "e") for letter in "stuvwxyz"]
        lab = Lab([("m", "f")], [("r", "")], moves)
        wishes = [((("m", "a"),), (("r", "wwwwwwww"),))]
        self.assertEqual(self.soon(lab, wishes, most=400, deep=400), ("heavy", 5))
        self.assertEqual(self.soon(lab, wishes), ("heavy", 3))

    def test_many_stands_and_rows(self):
        moves = []
        for at, name in enumerate("klm"):
            moves += [(name, one, ("take", "rst"[at], "xy"[step % 2]), other)
                      for step, (one, other) in enumerate(zip("abcdef", "bcdefa"))]
            moves += [(name, "a", ("take", "str"[at], "x"), "c"), (name, "b", ("send", "str"[at], "y"), "e")]
        lab = Lab([(name, "a") for name in "klm"], [(name, "xyxyxyxy") for name in "rst"], moves)
        self.assertEqual(len(lab), 24)
        wish = (tuple((name, "f") for name in "klm"), (("r", "xyxyxyxy"), ("s", "yyyy"), ("t", "xx")))
        for most in (60, 400):
            self.soon(lab, [wish], most=most, deep=400)
            self.soon(lab, [NONE, wish], most=most, deep=400)

    def test_papers_of_many_scenes(self):
        lab = Lab([("m", "a")], [("r", ""), ("s", "")], [
            ("m", "a", ("take", "rs"[at % 2], "abcdefghijkl"[at // 2]), "a") for at in range(24)])
        pairs = [one + other for one in "abcdefghijklmnopqrst" for other in "abcdefghijklmnopqrst"]
        scenes = [(("a",), (pair * 30, pair[::-1] * 30)) for pair in pairs]
        before = time.perf_counter()
        self.assertIs(shows(lab, [], ("never", scenes)), True)
        self.assertLess(time.perf_counter() - before, 3)


class TestPlayed(unittest.TestCase):
    def test_told_runs_can_be_played(self):
        for word in ("xxxx", "zyzyzyzy", "xyxyxyxy"):
            told, run = answer(double(word), TO_A)
            self.assertEqual(told, "comes")
            self.assertEqual(play(double(word), run)[-1][0], ("a",))


if __name__ == "__main__":
    unittest.main()
