"""Bodies, their parts and their texts."""

import itertools
import random
import unittest

from leakpost.bodies import body_text, is_body, parts, read_body
from leakpost.errors import BadBody, BadText
from straight import any_body

SKIP = ("skip",)
SEND = ("send", "road", "a")
NO_BODIES = (
    (), ("",), ("idle",), ("go",), ("Skip",), ("skip", "a"), ("skip", SKIP), ("skip", ()),
    ("send",), ("send", "road"), ("send", "road", "a", "b"), ("send", "Road", "a"), ("send", "", "a"),
    ("send", "a" * 9, "a"), ("send", "road", ""), ("send", "road", "ab"), ("send", "road", "A"), ("send", "road", "-"),
    ("send", SKIP, "a"), ("send", "road", SKIP), ("send", "road", ()), ("send", ("road",), "a"),
    ("send", "road", ("a",)), ("take", "road"), ("take", "road", "ab"), ("take", "road", "a", "a"), ("take",),
    ("take", "1", "a"), ("take", "road", ("a",)), ("bare",), ("bare", "road", "a"), ("bare", ""), ("bare", "Road"),
    ("bare", "a" * 9), ("bare", ("road",)), ("bare", SKIP), ("then",), ("then", SKIP), ("then", SKIP, SKIP, SKIP),
    ("then", SKIP, "skip"), ("then", "skip", SKIP), ("then", SKIP, ()), ("then", (), SKIP), ("then", SKIP, ("idle",)),
    ("or",), ("or", SKIP), ("or", SKIP, SKIP, SKIP), ("or", "skip", "skip"), ("or", SKIP, ""), ("or", SEND, ("bare",)),
    ("again",), ("again", SKIP, SKIP), ("again", "skip"), ("again", ()), ("again", ("again", "a")), ("again", ("or",)),
)


def nest(deep, inner=SKIP):
    """A body so deep, of again."""
    return inner if deep == 1 else ("again", nest(deep - 1, inner))


def wide(many):
    """A body of so many parts, an odd count up to 31, at most five deep."""
    if many == 1:
        return SEND
    left = min(15, (many - 1) // 4 * 2 + 1)
    return ("then", wide(left), wide(many - 1 - left))


def parts_as_told(body):
    """All bodies in it, itself first."""
    return [body] + [one for x in body[1:] if isinstance(x, tuple) for one in parts_as_told(x)]


class TestIsBody(unittest.TestCase):
    def test_bodies(self):
        for body in (
                SKIP, SEND, ("take", "a", "z"), ("bare", "road"), ("bare", "skip"), ("send", "send", "s"),
                ("bare", "a" * 8), ("then", SKIP, SEND), ("or", SEND, SEND), ("again", SKIP),
                ("again", ("then", ("or", SKIP, SEND), ("again", ("bare", "or"))))):
            self.assertIs(is_body(body), True)
            self.assertIs(is_body(thing=("again", body)), True)

    def test_others(self):
        for thing in NO_BODIES:
            self.assertIs(is_body(thing), False, thing)
            self.assertIs(is_body(("again", thing)), False, thing)
            self.assertIs(is_body(("or", SKIP, thing)), False, thing)
            self.assertIs(is_body(("then", thing, SKIP)), False, thing)

    def test_how_deep(self):
        for deep in range(1, 7):
            self.assertIs(is_body(nest(deep)), True)
            self.assertIs(is_body(nest(deep, SEND)), True)
        for deep in (7, 8, 20, 100):
            self.assertIs(is_body(nest(deep)), False)
        self.assertIs(is_body(("then", SKIP, nest(5))), True)
        self.assertIs(is_body(("then", SKIP, nest(6))), False)
        self.assertIs(is_body(("or", nest(6), SKIP)), False)

    def test_how_many_parts(self):
        for many in range(1, 24, 2):
            self.assertEqual(len(parts_as_told(wide(many))), many)
            self.assertIs(is_body(wide(many)), True)
            self.assertIs(is_body(("again", wide(many))), True)
        self.assertEqual(len(parts_as_told(("again", wide(23)))), 24)
        for body in (wide(25), ("again", ("again", wide(23))), ("again", wide(25)), wide(31)):
            self.assertIs(is_body(body), False)

    def test_a_tuple_of_many_things(self):
        self.assertIs(is_body(("then",) + (SKIP,) * 399), False)
        self.assertIs(is_body(("send",) + ("a",) * 399), False)


class TestParts(unittest.TestCase):
    def test_some(self):
        self.assertEqual(parts(SKIP), [SKIP])
        self.assertEqual(parts(("again", SEND)), [("again", SEND), SEND])
        left, right = ("or", SEND, SKIP), ("again", ("bare", "road"))
        self.assertEqual(parts(body=("then", left, right)),
                         [("then", left, right), left, SEND, SKIP, right, ("bare", "road")])
        self.assertEqual(parts(("then", SKIP, SKIP)), [("then", SKIP, SKIP), SKIP, SKIP])

    def test_many_as_told(self):
        for seed in range(300):
            body = any_body(seed)
            self.assertEqual(parts(body), parts_as_told(body))
        self.assertEqual(len(parts(("again", wide(23)))), 24)

    def test_asked_again_a_new_list_is_told(self):
        body = ("then", SKIP, SEND)
        told = parts(body)
        told.clear()
        self.assertEqual(parts(body), [body, SKIP, SEND])

    def test_what_is_no_body(self):
        for thing in NO_BODIES + (nest(7), wide(25), ("again", ("again", wide(23)))):
            for ask in (parts, body_text):
                with self.assertRaises(BadBody) as caught:
                    ask(thing)
                self.assertEqual((caught.exception.at, caught.exception.word), (-1, "badbody"))


class TestText(unittest.TestCase):
    def bad(self, text):
        """That the text is refused."""
        with self.assertRaises(BadText) as caught:
            read_body(text)
        self.assertEqual((caught.exception.at, caught.exception.word), (0, "badtext"))

    def test_some(self):
        for body, text in (
                (SKIP, "skip"), (SEND, "send(road,a)"), (("take", "skip", "z"), "take(skip,z)"),
                (("bare", "skip"), "bare(skip)"), (("bare", "again"), "bare(again)"),
                (("again", SKIP), "again(skip)"), (("then", SKIP, SEND), "then(skip,send(road,a))"),
                (("or", SEND, ("bare", "x")), "or(send(road,a),bare(x))"),
                (("again", ("or", ("then", SEND, SKIP), ("again", ("take", "or", "o")))),
                 "again(or(then(send(road,a),skip),again(take(or,o))))")):
            self.assertEqual(body_text(body), text)
            self.assertEqual(read_body(text), body)
        self.assertEqual(body_text(body=SKIP), "skip")
        self.assertEqual(read_body(text="skip"), SKIP)

    def test_all_are_read_as_written(self):
        for seed in range(300):
            body = any_body(seed)
            self.assertEqual(read_body(body_text(body)), body)
        for body in (nest(6), ("again", wide(23))):
            self.assertEqual(read_body(body_text(body)), body)

    def test_bodies_that_are_too_great(self):
        self.bad("again(" * 6 + "skip" + ")" * 6)
        self.bad("again(" * 6 + "bare(a)" + ")" * 6)
        self.bad("again(" * 3000 + "skip" + ")" * 3000)
        self.bad("again(" * 3300)
        full = body_text(wide(23))
        self.assertEqual(body_text(read_body(f"again({full})")), f"again({full})")
        self.bad(f"again(again({full}))")
        self.bad(f"or(skip,{full})")
        self.bad("or(" + "skip," * 3990 + "skip)")

    def test_texts_that_are_no_bodies(self):
        for text in (
                "", " ", "-", "idle", "skip ", " skip", "skip\n", "skip()", "skip(a)", "skip,skip", "Skip", "skipskip",
                "send", "send()", "send(road)", "send(road,)", "send(,a)", "send(road,ab)", "send(road,a,b)",
                "send(road,a", "send road,a)", "send(road,a))", "send((road,a)", "send(road, a)", "send (road,a)",
                "send(Road,a)", "send(roadroadr,a)", "send(road,A)", "send.road.a", "send(skip(),a)", "take(road)",
                "take(road,a)skip", "take(road,-)", "bare", "bare()", "bare(a,b)", "bare(a", "bare a", "bare(a)(b)",
                "bare(bare(a))", "bare(-)", "bare)", "bare(", "bare,a)", "again", "again()", "again(skip,skip)",
                "again(skip", "again(a)", "again skip)", "again(skip))", "again((skip))", "then(skip)", "then(skip,)",
                "then(,skip)", "then(skip,skip,skip)", "then(skip,skip", "then(skip;skip)", "then(skip,skip))",
                "then(skip),skip)", "or(skip),(skip)", "or(skip,skip)or(skip,skip)", "or(a,b)", "or(skip,or)",
                "or((skip),skip)", "(skip)", "()", ")", "(", ",", "or(bare(a),bare(b)", "or(bare(a,bare(b))",
                "or(bare(a)bare(b))", "or(bare(a),,bare(b))", "idle(a)", "(a)", "(a,b)", "send(road,a,)",
                "bare(~)", "send(skip,skip)"):
            self.bad(text)
            self.bad(f"again({text})")

    def test_texts_bent_in_one_place(self):
        text = "then(or(send(ab,a),skip),again(bare(b)))"
        wanted = {"then(or(send(ab,a),skip),again(bare(b)))"}
        for at in range(len(text)):
            for sign in "a(),s ":
                for bent in (text[:at] + sign + text[at + 1:], text[:at] + sign + text[at:],
                             text[:at] + text[at + 1:]):
                    try:
                        told = read_body(bent)
                    except BadText:
                        continue
                    self.assertEqual(body_text(told), bent)
                    wanted.add(bent)
        self.assertTrue(4 < len(wanted) < 20, wanted)

    def test_all_short_texts(self):
        texts = set()
        for size in range(4):
            for pieces in itertools.product(("skip", "bare(a)", "again(", "or(", ")", ","), repeat=size):
                text = "".join(pieces)
                try:
                    self.assertEqual(body_text(read_body(text)), text)
                    texts.add(text)
                except BadText:
                    pass
        self.assertEqual(texts, {"skip", "bare(a)", "again(skip)", "again(bare(a))"})

    def test_bodies_of_chance(self):
        chance = random.Random(7)
        for each in range(300):
            text = body_text(any_body(chance.random()))
            at = chance.randrange(len(text))
            with self.subTest(text=text, at=at):
                bent = text[:at] + chance.choice("ab(),-. ") + text[at + 1:]
                try:
                    self.assertEqual(body_text(read_body(bent)), bent)
                except BadText as error:
                    self.assertEqual(error.at, 0)


if __name__ == "__main__":
    unittest.main()
