"""Names, letters, words, and one word within another one."""

import itertools
import unittest

from leakpost.words import behind, is_letter, is_name, is_word, spots, within

SMALL = "abcdefghijklmnopqrstuvwxyz"
# The neighbours of a and z, and what only looks like a letter.
STRANGE = ("A", "Z", "M", "0", "5", "9", " ", "-", "\n", "`", "{", "_", ".", "~", "!", "@", "[", "'", "\"", "\\")
WORDS = ["".join(signs) for many in range(5) for signs in itertools.product("ab", repeat=many)]


def spoiled(sign, many):
    """Texts of so many signs with the sign first, in the middle and last."""
    plain = "abcdefgh"[:many - 1]
    return [plain[:at] + sign + plain[at:] for at in sorted({0, len(plain) // 2, len(plain)})]


def all_places(small, great):
    """By rising order, all lists of places at which the small word stands in the great one."""
    return [list(places) for places in itertools.combinations(range(len(great)), len(small))
            if "".join(great[at] for at in places) == small]


class TestNames(unittest.TestCase):
    def test_counts_of_letters(self):
        for many, told in ((0, False), (1, True), (2, True), (7, True), (8, True), (9, False), (20000, False)):
            self.assertIs(is_name("a" * many), told)
            self.assertIs(is_name(("azby" * many)[:many]), told)

    def test_each_small_letter_is_one(self):
        for sign in SMALL:
            self.assertIs(is_name(sign), True)
            self.assertIs(is_name("go" + sign + "on"), True)

    def test_other_signs(self):
        for sign in STRANGE:
            for many in (1, 2, 3, 7, 8, 9):
                for text in spoiled(sign, many):
                    self.assertIs(is_name(text), False, repr(text))


class TestLetters(unittest.TestCase):
    def test_each_small_letter_is_one(self):
        for sign in SMALL:
            self.assertIs(is_letter(sign), True)

    def test_counts_of_letters(self):
        for text in ("", "ab", "aa", "abc", "xyz", SMALL, "a" * 8, "a" * 9):
            self.assertIs(is_letter(text), False)

    def test_other_signs(self):
        for sign in STRANGE:
            for text in [sign] + spoiled(sign, 2) + spoiled(sign, 3):
                self.assertIs(is_letter(text), False, repr(text))


class TestWords(unittest.TestCase):
    def test_any_count_of_letters(self):
        for many in (0, 1, 2, 8, 9, 60, 61, 400, 20000):
            self.assertIs(is_word("a" * many), True)
            self.assertIs(is_word((SMALL * many)[:many]), True)

    def test_each_small_letter_is_one(self):
        for sign in SMALL:
            self.assertIs(is_word(sign), True)

    def test_other_signs(self):
        for sign in STRANGE:
            for many in (1, 2, 3, 8, 9):
                for text in spoiled(sign, many):
                    self.assertIs(is_word(text), False, repr(text))
        self.assertIs(is_word("a" * 19999 + "\n"), False)


class TestWithin(unittest.TestCase):
    def test_the_empty_word_lies_in_any(self):
        for great in WORDS:
            self.assertIs(within("", great), True)

    def test_nothing_but_the_empty_word_lies_in_it(self):
        for small in WORDS:
            self.assertIs(within(small, ""), small == "")

    def test_a_word_lies_in_itself(self):
        for word in WORDS + [SMALL, "z" * 400]:
            self.assertIs(within(word, word), True)

    def test_letters_struck_out(self):
        for small in ("a", "d", "ab", "ac", "bd", "acd", "abcd", "bc"):
            self.assertIs(within(small, "abcd"), True)
        self.assertIs(within("road", "brxoxaxdy"), True)

    def test_another_order(self):
        for small in ("ba", "dc", "da", "acb", "dcba", "bacd"):
            self.assertIs(within(small, "abcd"), False)

    def test_a_letter_too_often(self):
        self.assertIs(within("aa", "aba"), True)
        self.assertIs(within("aaa", "aba"), False)
        self.assertIs(within("bb", "aba"), False)
        self.assertIs(within("aa", "a"), False)

    def test_a_letter_that_is_not_there(self):
        self.assertIs(within("x", "abc"), False)
        self.assertIs(within("axc", "abc"), False)

    def test_the_great_one_in_the_small_one(self):
        self.assertIs(within("abc", "ac"), False)

    def test_all_small_words_as_told(self):
        for small in WORDS:
            for great in WORDS:
                self.assertIs(within(small, great), bool(all_places(small, great)))

    def test_long_words(self):
        self.assertIs(within("ab" * 5000, "ba" * 5000 + "b"), True)
        self.assertIs(within("ab" * 5001, "ba" * 5000 + "b"), False)


class TestSpots(unittest.TestCase):
    def test_the_empty_word_has_no_places(self):
        for great in WORDS:
            self.assertEqual(spots("", great), [])

    def test_a_word_in_itself(self):
        for word in WORDS:
            self.assertEqual(spots(word, word), list(range(len(word))))

    def test_each_as_small_as_can_be(self):
        self.assertEqual(spots("a", "bab" + "a"), [1])
        self.assertEqual(spots("ab", "aabab"), [0, 2])
        self.assertEqual(spots("aa", "abaa"), [0, 2])
        self.assertEqual(spots("bb", "abcbb"), [1, 3])
        self.assertEqual(spots("abc", "cabacbc"), [1, 2, 4])

    def test_none_where_it_lies_not_within(self):
        for small, great in (("a", ""), ("ba", "ab"), ("aa", "ab"), ("aaa", "aba"), ("x", "abc"), ("abx", "abc")):
            self.assertIsNone(spots(small, great))

    def test_all_small_words_as_told(self):
        for small in WORDS:
            for great in WORDS:
                least = min(all_places(small, great), default=None)
                self.assertEqual(spots(small, great), least)

    def test_a_new_list_each_time(self):
        for small in ("", "ab"):
            told = spots(small, "aab")
            kept = list(told)
            told.append(99)
            self.assertEqual(spots(small, "aab"), kept)


class TestBehind(unittest.TestCase):
    def test_a_letter_once(self):
        self.assertEqual(behind("abcd", "b"), "cd")

    def test_a_letter_several_times(self):
        self.assertEqual(behind("abcbd", "b"), "cbd")
        self.assertEqual(behind("aaa", "a"), "aa")

    def test_a_letter_first_and_last(self):
        self.assertEqual(behind("abcd", "a"), "bcd")
        self.assertEqual(behind("abcd", "d"), "")
        self.assertEqual(behind("a", "a"), "")
        self.assertEqual(behind("abca", "a"), "bca")

    def test_a_letter_that_is_not_there(self):
        self.assertIsNone(behind("abcd", "x"))

    def test_the_empty_word(self):
        self.assertIsNone(behind("", "a"))

    def test_what_is_no_letter_stands_in_no_word(self):
        self.assertIsNone(behind("abcd", ""))
        self.assertIsNone(behind("abcd", "bc"))
        self.assertIsNone(behind("", ""))

    def test_all_small_words_as_told(self):
        for word in WORDS:
            for letter in "abc":
                told = word.split(letter, 1)[1] if letter in word else None
                self.assertEqual(behind(word, letter), told)


class TestByNames(unittest.TestCase):
    def test_things_may_be_handed_in_by_their_names(self):
        self.assertIs(is_name(text="ab"), True)
        self.assertIs(is_letter(text="a"), True)
        self.assertIs(is_word(text=""), True)
        self.assertIs(within(great="ab", small="b"), True)
        self.assertEqual(spots(great="ab", small="b"), [1])
        self.assertEqual(behind(letter="a", word="ab"), "b")


if __name__ == "__main__":
    unittest.main()
