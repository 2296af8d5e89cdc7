"""Products of atoms: their words, which lies in which, and what becomes of them."""

import itertools
import unittest

from leakpost.errors import BadAtom, BadText, BadWord
from leakpost.products import (
    holds, inside, is_product, plain, product_of, product_text, read_product, sent, swollen, taken)
from straight import is_of, is_plain, lies_in

ATOMS = (("a", False), ("b", False), ("a", True), ("b", True), ("ab", True))
MORE_ATOMS = ATOMS + (("c", False), ("bc", True), ("ac", True), ("abc", True))
SMALL = [product for many in range(4) for product in itertools.product(ATOMS, repeat=many)]
LONG = [product for many in range(3) for product in itertools.product(MORE_ATOMS, repeat=many)]
LONG += [tuple(MORE_ATOMS[(start + step * at) % 9] for at in range(6)) for start in range(9) for step in range(1, 9)]
WORDS = ["".join(signs) for many in range(6) for signs in itertools.product("ab", repeat=many)]
THREE = ["".join(signs) for many in range(4) for signs in itertools.product("abc", repeat=many)]
NO_PRODUCTS = (
    (("", True),), (("", False),), (("ab", False),), (("ba", True),), (("aa", True),), (("aa", False),),
    (("A", False),), (("a b", True),), (("a*", True),), (("1", False),), (("-", False),), (("\n", True),),
    (("acb", True),), (("abb", True),), (("a", False), ("", True)), (("ba", True), ("a", False)),
    (("a", True), ("b", True), ("ca", True)),
)
NO_WORDS = ("A", "a b", "-", "a\n", "1", "ab*", " ")
NO_LETTERS = ("", "ab", "aa", "A", "-", " ", "1", "*")
NO_SETS = ("ba", "aa", "abb", "acb", "A", "a b", "-", "ab ", "1")


class Products(unittest.TestCase):
    def same(self, told, wanted):
        """That the told product is plain and has just those words."""
        self.assertIs(told.__class__, tuple)
        self.assertTrue(is_product(told))
        self.assertTrue(is_plain(told), told)
        self.assertTrue(lies_in(told, wanted) and lies_in(wanted, told), (told, wanted))


class TestIsProduct(unittest.TestCase):
    def test_products(self):
        for product in SMALL + LONG:
            self.assertIs(is_product(product), True)
        self.assertIs(is_product(()), True)
        self.assertIs(is_product((("abcdefghijklmnopqrstuvwxyz", True),)), True)
        self.assertIs(is_product((("a", False),) * 400), True)
        self.assertIs(is_product(thing=(("az", True),)), True)

    def test_others(self):
        for thing in NO_PRODUCTS:
            self.assertIs(is_product(thing), False)


class TestRefusals(unittest.TestCase):
    def test_what_is_no_product(self):
        for bad in NO_PRODUCTS:
            for letter in ("a",) + NO_LETTERS:
                for ask in (sent, taken):
                    with self.assertRaises(BadAtom) as caught:
                        ask(bad, letter)
                    self.assertEqual(caught.exception.at, -1)
            for text in ("a", "") + NO_WORDS:
                with self.assertRaises(BadAtom):
                    holds(bad, text)
            for text in ("ab", "") + NO_SETS:
                with self.assertRaises(BadAtom):
                    swollen(bad, text)
            for ask in (plain, product_text):
                with self.assertRaises(BadAtom):
                    ask(bad)

    def test_inside_of_what_is_no_product(self):
        for bad in NO_PRODUCTS:
            for good in ((), (("a", False),), (("abc", True),), bad):
                with self.assertRaises(BadAtom):
                    inside(bad, good)
                with self.assertRaises(BadAtom):
                    inside(good, bad)

    def test_what_is_no_word_letter_or_text_of_letters(self):
        for product in ((), (("a", False),), (("abc", True), ("d", False))):
            for text in NO_WORDS:
                with self.assertRaises(BadWord) as caught:
                    holds(product, text)
                self.assertEqual(caught.exception.at, -1)
            for text in NO_LETTERS:
                for ask in (sent, taken):
                    with self.assertRaises(BadWord):
                        ask(product, text)
            for text in NO_SETS:
                with self.assertRaises(BadWord):
                    swollen(product, text)
        for text in NO_WORDS:
            with self.assertRaises(BadWord):
                product_of(text)


class TestHolds(unittest.TestCase):
    def test_some(self):
        self.assertIs(holds((), ""), True)
        self.assertIs(holds((), "a"), False)
        self.assertIs(holds((("a", False), ("b", False)), "ab"), True)
        self.assertIs(holds((("a", False), ("b", False)), "ba"), False)
        self.assertIs(holds((("ab", True), ("c", False)), "abbabac"), True)
        self.assertIs(holds((("ab", True), ("c", False)), "acb"), False)
        self.assertIs(holds((("a", True), ("a", False)), "a" * 20000), True)
        self.assertIs(holds(word="b", product=(("a", True), ("b", False))), True)

    def test_many_as_told(self):
        for product in SMALL:
            for word in WORDS:
                self.assertIs(holds(product, word), is_of(product, word))
        for product in LONG:
            for word in THREE:
                self.assertIs(holds(product, word), is_of(product, word))

    def test_what_lies_within_a_word_is_of_the_product_too(self):
        for product in LONG:
            for word in THREE:
                if holds(product, word):
                    for at in range(len(word)):
                        self.assertTrue(holds(product, word[:at] + word[at + 1:]))


class TestInside(unittest.TestCase):
    def test_some(self):
        a, b, many = ("a", False), ("b", False), ("ab", True)
        for one, other, told in (
                ((), (), True), ((), (a,), True), ((a,), (), False), ((a, b), (a, b), True), ((a, b), (b, a), False),
                ((a,), (b, a), True), ((a, b, a), (many,), True), ((many,), (a, b, a), False),
                ((("a", True),), (a,), False), ((("a", True),), (a, ("a", True)), True), ((a, a), (a,), False),
                ((many,), (("a", True), ("b", True)), False), ((("a", True), ("b", True)), (many,), True)):
            self.assertIs(inside(one, other), told)
        self.assertIs(inside(other=(many,), one=(a,)), True)

    def test_many_as_told(self):
        for one, other in itertools.product(SMALL, repeat=2):
            self.assertIs(inside(one, other), lies_in(one, other))
        for one, other in itertools.product(LONG, repeat=2):
            self.assertIs(inside(one, other), lies_in(one, other))

    def test_by_their_words(self):
        words = {product: {word for word in WORDS if is_of(product, word)} for product in SMALL}
        for one, other in itertools.product(SMALL[:60], repeat=2):
            self.assertIs(inside(one, other), words[one] <= words[other])

    def test_long_products(self):
        letters = product_of("ab" * 200)
        self.assertIs(inside(letters, (("ab", True),)), True)
        self.assertIs(inside(letters, letters), True)
        self.assertIs(inside(letters, letters[:-1]), False)


class TestPlain(Products):
    def test_some(self):
        for product, told in (
                ((), ()), ((("a", False), ("a", False)), (("a", False), ("a", False))),
                ((("a", False), ("a", True)), (("a", True),)), ((("a", True), ("a", False)), (("a", True),)),
                ((("a", True), ("a", True)), (("a", True),)), ((("a", True), ("ab", True)), (("ab", True),)),
                ((("b", False), ("a", True), ("c", False), ("abc", True), ("c", False)), (("abc", True),)),
                ((("a", False), ("b", True), ("a", False)), (("a", False), ("b", True), ("a", False))),
                ((("ab", True), ("a", False), ("b", False), ("c", False)), (("ab", True), ("c", False))),
                ((("ab", True), ("bc", True)), (("ab", True), ("bc", True)))):
            self.assertEqual(plain(product), told)
            self.assertEqual(plain(product=told), told)

    def test_many_as_told(self):
        for product in SMALL + LONG:
            self.same(plain(product), product)
            if is_plain(product):
                self.assertEqual(plain(product), product)

    def test_products_with_the_same_words_have_the_same_plain_one(self):
        for one, other in itertools.product(SMALL, repeat=2):
            self.assertIs(plain(one) == plain(other), lies_in(one, other) and lies_in(other, one))


class TestSent(Products):
    def test_some(self):
        self.assertEqual(sent((), "a"), (("a", False),))
        self.assertEqual(sent((("a", False),), "a"), (("a", False), ("a", False)))
        self.assertEqual(sent((("ab", True),), "a"), (("ab", True),))
        self.assertEqual(sent((("ab", True),), "c"), (("ab", True), ("c", False)))
        self.assertEqual(sent(letter="c", product=(("a", True), ("a", False))), (("a", True), ("c", False)))

    def test_many_as_told(self):
        for product in SMALL:
            for letter in "abc":
                told = sent(product, letter)
                self.same(told, product + ((letter, False),))
                for word in WORDS[:31]:
                    self.assertIs(
                        is_of(told, word), is_of(product, word) or word[-1:] == letter and is_of(product, word[:-1]))


class TestTaken(Products):
    def test_some(self):
        self.assertIsNone(taken((), "a"))
        self.assertIsNone(taken((("b", False), ("bc", True)), "a"))
        self.assertEqual(taken((("a", False),), "a"), ())
        self.assertEqual(taken((("b", False), ("a", False), ("c", False)), "a"), (("c", False),))
        self.assertEqual(taken((("b", False), ("ab", True), ("c", False)), "a"), (("ab", True), ("c", False)))
        self.assertEqual(taken((("a", False), ("b", True), ("b", False)), "a"), (("b", True),))
        self.assertEqual(taken(letter="b", product=(("a", True), ("b", False))), ())

    def test_many_as_told(self):
        for product in SMALL:
            for letter in "abc":
                told = taken(product, letter)
                words = {word for word in WORDS[:31] if is_of(product, letter + word)}
                if told is None:
                    self.assertEqual(words, set())
                else:
                    self.assertTrue(is_plain(told))
                    self.assertEqual({word for word in WORDS[:31] if is_of(told, word)}, words)


class TestSwollen(Products):
    def test_some(self):
        self.assertEqual(swollen((), ""), ())
        self.assertEqual(swollen((), "abz"), (("abz", True),))
        self.assertEqual(swollen((("a", False), ("c", False)), "ab"), (("a", False), ("c", False), ("ab", True)))
        self.assertEqual(swollen((("c", False), ("a", False), ("b", True)), "ab"), (("c", False), ("ab", True)))
        self.assertEqual(swollen((("abc", True),), "ab"), (("abc", True),))
        self.assertEqual(swollen(letters="", product=(("a", True), ("a", False))), (("a", True),))

    def test_many_as_told(self):
        for product in SMALL + LONG:
            self.same(swollen(product, ""), product)
            for letters in ("a", "b", "ab", "ac", "abc"):
                self.same(swollen(product, letters), product + ((letters, True),))


class TestProductOf(Products):
    def test_words(self):
        self.assertEqual(product_of(""), ())
        self.assertEqual(product_of("aba"), (("a", False), ("b", False), ("a", False)))
        self.assertEqual(product_of(word="zz"), (("z", False), ("z", False)))
        for word in WORDS:
            told = product_of(word)
            self.assertEqual(plain(told), told)
            self.assertTrue(holds(told, word))


class TestText(unittest.TestCase):
    def test_some(self):
        for product, text in (
                ((), "-"), ((("a", False),), "a"), ((("a", True),), "a*"), ((("ab", True),), "ab*"),
                ((("a", False), ("abz", True), ("a", False)), "a abz* a"),
                ((("a", True), ("a", True), ("a", False)), "a* a* a")):
            self.assertEqual(product_text(product), text)
            self.assertEqual(read_product(text), product)
        self.assertEqual(product_text(product=()), "-")
        self.assertEqual(read_product(text="b"), (("b", False),))

    def test_all_are_read_as_written(self):
        for product in SMALL + LONG:
            told = read_product(product_text(product))
            self.assertEqual(told, product)
            self.assertTrue(all(many is True or many is False for letters, many in told))

    def test_texts_that_are_no_products(self):
        for text in (
                "", " ", "*", "- ", " -", "--", "-*", "a -", "- a", "ab", "ba*", "aa*", "a**", "*a", "a *", " a", "a ",
                "a  b", "a\n", "a\nb", "A", "A*", "a,b", "a*b", "a* ba*", "a ab", "a*b*", "1", "a.b", "a* *", "~"):
            with self.assertRaises(BadText) as caught:
                read_product(text)
            self.assertEqual(caught.exception.at, 0)

    def test_all_short_texts(self):
        texts = {product_text(product) for product in SMALL + LONG if len(product) < 4}
        texts |= {product_text((one, other)) for one in MORE_ATOMS for other in MORE_ATOMS}
        for many in range(5):
            for signs in itertools.product("ab* -", repeat=many):
                text = "".join(signs)
                try:
                    self.assertEqual(product_text(read_product(text)), text)
                    self.assertIn(text, texts)
                except BadText as error:
                    self.assertNotIn(text, texts)
                    self.assertEqual(error.at, 0)


if __name__ == "__main__":
    unittest.main()
