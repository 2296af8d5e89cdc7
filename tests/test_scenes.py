"""Scenes: one above another one, and the least ones of some."""

import itertools
import unittest

from leakpost.scenes import above, least

NOTHING = ((), ())
WORDS = ("", "a", "b", "aa", "ab", "ba", "bb", "aba")
TWO_ROWS = [(("go",), words) for words in itertools.product(WORDS, repeat=2)]


def in_word(small, great):
    """Whether some letters struck out of the great word leave the small one."""
    return any("".join(left) == small for left in itertools.combinations(great, len(small)))


def lies_above(one, other):
    """What the document says of one scene above another one, straight."""
    return one[0] == other[0] and all(in_word(small, great) for small, great in zip(other[1], one[1]))


def least_as_told(scenes):
    """What the document says of the least ones, straight."""
    return sorted({one for one in scenes
                   if not any(other != one and lies_above(one, other) for other in scenes)})


class TestAbove(unittest.TestCase):
    def test_each_lies_above_itself(self):
        for scene in [NOTHING, (("go",), ()), ((), ("ab",)), (("go", "stop"), ("ab", ""))] + TWO_ROWS:
            self.assertIs(above(scene, scene), True)
            self.assertIs(above(scene, (tuple(list(scene[0])), tuple(list(scene[1])))), True)

    def test_other_stands(self):
        low = (("go", "stop"), ("a",))
        for stands in (("stop", "go"), ("go", "go"), ("stop", "stop"), ("g", "stop"), ("go", "stops")):
            for word in ("a", "", "ab"):
                self.assertIs(above((stands, (word,)), low), False)
                self.assertIs(above(low, (stands, (word,))), False)

    def test_one_letter_more_and_one_less(self):
        low = (("go",), ("ab", "c"))
        for words in (("xab", "c"), ("axb", "c"), ("abx", "c"), ("ab", "cx"), ("ab", "xc"), ("aab", "cc")):
            self.assertIs(above((("go",), words), low), True)
            self.assertIs(above(low, (("go",), words)), False)
        for words in (("a", "c"), ("b", "c"), ("ab", "")):
            self.assertIs(above((("go",), words), low), False)
            self.assertIs(above(low, (("go",), words)), True)

    def test_one_row_more_and_the_other_less(self):
        one, other = (("go",), ("ab", "")), (("go",), ("a", "c"))
        self.assertIs(above(one, other), False)
        self.assertIs(above(other, one), False)

    def test_rows_are_told_apart(self):
        one, other = (("go",), ("ab", "")), (("go",), ("", "ab"))
        self.assertIs(above(one, other), False)
        self.assertIs(above(other, one), False)

    def test_another_order_of_letters(self):
        self.assertIs(above((("go",), ("ab",)), (("go",), ("ba",))), False)

    def test_no_machines(self):
        self.assertIs(above(((), ("ab",)), ((), ("b",))), True)
        self.assertIs(above(((), ("b",)), ((), ("ab",))), False)

    def test_no_rows(self):
        self.assertIs(above((("go",), ()), (("go",), ())), True)
        self.assertIs(above((("go",), ()), (("stop",), ())), False)

    def test_neither(self):
        self.assertIs(above(NOTHING, NOTHING), True)

    def test_many_as_told(self):
        for one in TWO_ROWS:
            for other in TWO_ROWS:
                self.assertIs(above(one, other), lies_above(one, other))

    def test_by_names(self):
        one, other = (("go",), ("ab",)), (("go",), ("b",))
        self.assertIs(above(other=other, one=one), True)


class TestLeast(unittest.TestCase):
    def test_no_scenes(self):
        self.assertEqual(least([]), [])
        self.assertEqual(least(()), [])

    def test_one_scene_twice(self):
        scene = (("go",), ("ab",))
        self.assertEqual(least([scene]), [scene])
        self.assertEqual(least([scene, scene]), [scene])
        self.assertEqual(least([scene, (("go",), ("ab",)), scene]), [scene])
        self.assertEqual(least([NOTHING, NOTHING]), [NOTHING])

    def test_above_one_another_in_any_order(self):
        chain = [(("go",), (word,)) for word in ("b", "ab", "abb", "cabb")]
        for scenes in itertools.permutations(chain):
            self.assertEqual(least(list(scenes)), [chain[0]])

    def test_those_above_no_other_are_all_kept_rising(self):
        apart = [
            (("go",), ("", "bb")), (("go",), ("a", "b")), (("go",), ("aa", "")),
            (("stop",), ("", "bb")),
        ]
        for scenes in itertools.permutations(apart):
            self.assertEqual(least(scenes), apart)

    def test_rising_is_not_by_the_count_of_letters(self):
        self.assertEqual(least([((), ("b",)), ((), ("aa",))]), [((), ("aa",)), ((), ("b",))])

    def test_stands_are_told_apart(self):
        scenes = [(("stop",), ("",)), (("go",), ("ab",)), (("go",), ("a",)), (("stop",), ("a",))]
        self.assertEqual(least(scenes), [(("go",), ("a",)), (("stop",), ("",))])

    def test_no_machines_no_rows_and_neither(self):
        self.assertEqual(least([((), ("ab",)), ((), ("b",)), ((), ("c",))]), [((), ("b",)), ((), ("c",))])
        self.assertEqual(least([(("stop",), ()), (("go",), ())]), [(("go",), ()), (("stop",), ())])
        self.assertEqual(least([NOTHING]), [NOTHING])

    def test_many_as_told(self):
        for size in (1, 2, 5, 9, 17, 64):
            for start in range(0, len(TWO_ROWS), 3):
                scenes = [TWO_ROWS[(start + 11 * step) % len(TWO_ROWS)] for step in range(size)]
                self.assertEqual(least(scenes), least_as_told(scenes))

    def test_the_list_handed_in_is_as_it_was(self):
        scenes = [(("stop",), ("b",)), (("go",), ("ab",)), (("go",), ("a",)), (("stop",), ("b",))]
        kept = list(scenes)
        self.assertEqual(least(scenes), [(("go",), ("a",)), (("stop",), ("b",))])
        self.assertEqual(scenes, kept)

    def test_the_told_list_is_a_new_one(self):
        scenes = [(("go",), ("a",)), (("stop",), ("b",))]
        told = least(scenes)
        self.assertIsNot(told, scenes)
        told.clear()
        self.assertEqual(len(scenes), 2)
        self.assertEqual(least(scenes), scenes)
        self.assertIsInstance(least(tuple(scenes)), list)

    def test_by_name(self):
        self.assertEqual(least(scenes=[NOTHING]), [NOTHING])


if __name__ == "__main__":
    unittest.main()
