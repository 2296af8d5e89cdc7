"""Wishes: what grants them, what they refuse, and the least scenes that grant them."""

import itertools
import unittest

from leakpost.errors import BadScene, BadWish
from leakpost.lab import Lab
from leakpost.wishes import grants, least_of
from straight import all_scenes, any_lab, any_wishes, granted, least_as_told, post

NONE = ((), ())
BAD_WISHES = (
    ((("up", "go"),), ()), ((("", "go"),), ()), ((("road", "go"),), ()), ((("Left", "go"),), ()),
    ((("left", "go"), ("left", "go")), ()), ((("left", "go"), ("right", "run"), ("left", "wait")), ()),
    ((("left", ""),), ()), ((("left", "Go"),), ()), ((("left", "abcdefghi"),), ()), ((("left", "go "),), ()),
    ((("left", "go"), ("right", "")), ()),
    ((), (("up", "a"),)), ((), (("", "a"),)), ((), (("left", "a"),)), ((), (("Road", "a"),)),
    ((), (("road", "a"), ("road", "a"))), ((), (("road", ""), ("back", ""), ("road", "b"))),
    ((), (("road", "A"),)), ((), (("road", "a b"),)), ((), (("road", "-"),)), ((), (("road", "aaaaaaaaa"),)),
    ((), (("road", "a"), ("back", "a\n"))),
)
GOOD_WISHES = (
    NONE, ((("left", "go"),), ()), ((("right", "run"), ("left", "wait")), ()), ((), (("road", ""),)),
    ((), (("back", "b"), ("road", "abcdefgh"))), ((("left", "nowhere"),), (("road", "a"),)),
)
BAD_SCENE = (("go",), ())


class TestGrants(unittest.TestCase):
    def test_stands(self):
        here = (("go", "run"), ("ab", ""))
        for stands, told in (
                ((), True), ((("left", "go"),), True), ((("right", "run"),), True),
                ((("left", "go"), ("right", "run")), True), ((("right", "run"), ("left", "go")), True),
                ((("left", "wait"),), False), ((("left", "go"), ("right", "stop")), False),
                ((("left", "nowhere"),), False), ((("right", "go"),), False)):
            self.assertIs(grants(post(), (stands, ()), here), told)

    def test_words(self):
        here = (("go", "run"), ("abab", "c"))
        for words, told in (
                ((), True), ((("road", ""),), True), ((("road", "ab"),), True), ((("road", "bb"),), True),
                ((("road", "abab"),), True), ((("road", "ababa"),), False), ((("road", "bba"),), False),
                ((("back", "c"),), True), ((("back", "c"), ("road", "aa")), True), ((("back", "a"),), False),
                ((("road", "aa"), ("back", "cc")), False), ((("road", "c"),), False)):
            self.assertIs(grants(post(), ((), words), here), told)

    def test_both_are_needed(self):
        wish = ((("left", "go"),), (("road", "b"),))
        self.assertIs(grants(post(), wish, (("go", "stop"), ("ab", ""))), True)
        self.assertIs(grants(post(), wish, (("wait", "stop"), ("ab", ""))), False)
        self.assertIs(grants(post(), wish, (("go", "stop"), ("aa", ""))), False)

    def test_labs_that_lack_something(self):
        self.assertIs(grants(Lab(), NONE, NONE), True)
        with self.assertRaises(BadWish):
            grants(Lab(), ((("m", "a"),), ()), NONE)
        with self.assertRaises(BadWish):
            grants(Lab([("m", "a")]), ((), (("r", ""),)), (("a",), ()))

    def test_bad_wishes(self):
        for wish in BAD_WISHES:
            for scene in (post().begin(), BAD_SCENE):
                with self.assertRaises(BadWish) as caught:
                    grants(post(), wish, scene)
                self.assertEqual(caught.exception.at, -1)

    def test_bad_scenes(self):
        for wish in GOOD_WISHES:
            for scene in (BAD_SCENE, NONE, (("go", "go"), ("", "")), (("go", "stop"), ("A", ""))):
                with self.assertRaises(BadScene):
                    grants(post(), wish, scene)

    def test_by_names(self):
        self.assertIs(grants(scene=post().begin(), wish=NONE, lab=post()), True)

    def test_many_as_told(self):
        for seed in range(10):
            lab = any_lab(seed)
            for wish in any_wishes(lab, seed):
                for scene in all_scenes(lab):
                    self.assertIs(grants(lab, wish, scene), granted(lab, wish, scene))


class TestLeastOf(unittest.TestCase):
    def test_no_wishes(self):
        self.assertEqual(least_of(post(), []), [])
        self.assertEqual(least_of(Lab(), ()), [])

    def test_a_wish_for_nothing(self):
        all_stands = itertools.product(("go", "wait"), ("end", "run", "stop"))
        self.assertEqual(least_of(post(), [NONE]), [(stands, ("", "")) for stands in all_stands])
        self.assertEqual(least_of(Lab(), [NONE]), [NONE])
        self.assertEqual(least_of(Lab(rows=[("r", "ab"), ("s", "")]), [NONE]), [((), ("", ""))])

    def test_all_wished(self):
        wish = ((("right", "end"), ("left", "wait")), (("back", "ab"), ("road", "c")))
        self.assertEqual(least_of(post(), [wish]), [(("wait", "end"), ("c", "ab"))])

    def test_the_other_stands_are_free(self):
        wish = ((("right", "end"),), (("back", "ab"),))
        self.assertEqual(least_of(post(), [wish]), [(("go", "end"), ("", "ab")), (("wait", "end"), ("", "ab"))])

    def test_in_vain(self):
        for stand in ("nowhere", "stop", "run"):
            self.assertEqual(least_of(post(), [((("left", stand),), ())]), [])
        kept = ((("left", "go"), ("right", "end")), ())
        self.assertEqual(least_of(post(), [((("left", "nowhere"),), ()), kept]), [(("go", "end"), ("", ""))])

    def test_of_several_wishes_the_least_are_told_once(self):
        low = ((("left", "go"), ("right", "end")), (("road", "a"),))
        high = ((("left", "go"), ("right", "end")), (("road", "ba"), ("back", "c")))
        other = ((("left", "go"), ("right", "end")), (("road", "bb"),))
        for wishes in itertools.permutations([low, high, other, low]):
            self.assertEqual(
                least_of(post(), list(wishes)), [(("go", "end"), ("a", "")), (("go", "end"), ("bb", ""))])

    def test_words_at_the_bound_and_many_wishes(self):
        for many in (1, 8, 9, 30):
            wishes = [((("left", "go"), ("right", "end")), (("road", "abcdefgh"),))] * many
            self.assertEqual(least_of(post(), wishes), [(("go", "end"), ("abcdefgh", ""))])

    def test_bad_wishes(self):
        for wish in BAD_WISHES:
            for wishes in ([wish], [NONE, wish], [wish, NONE], (wish, wish)):
                with self.assertRaises(BadWish) as caught:
                    least_of(post(), wishes)
                self.assertEqual(caught.exception.at, -1)
        with self.assertRaises(BadWish):
            least_of(post(), [((("left", "nowhere"),), ()), ((("left", "nowhere"),), (("up", ""),))])

    def test_the_lists(self):
        wishes = [NONE, ((("left", "go"),), ())]
        kept = list(wishes)
        least_of(post(), wishes).clear()
        self.assertEqual(wishes, kept)
        self.assertEqual(len(least_of(wishes=wishes, lab=post())), 6)
        self.assertIsInstance(least_of(post(), tuple(wishes)), list)

    def test_many_as_told(self):
        for seed in range(30):
            lab = any_lab(seed)
            wishes = any_wishes(lab, seed + 100)
            told = [scene for scene in all_scenes(lab) if any(granted(lab, wish, scene) for wish in wishes)]
            self.assertEqual(least_of(lab, wishes), least_as_told(told))


if __name__ == "__main__":
    unittest.main()
