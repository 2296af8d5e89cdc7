"""Covers of labs, parts that shut a lab in, and wishes that parts let."""

import itertools
import unittest

from leakpost.answers import answer
from leakpost.back import MOST_DEEP, MOST_LIST
from leakpost.cover import cover, lets, shuts
from leakpost.errors import BadWish, Heavy
from leakpost.lab import Lab
from leakpost.products import inside, product_of, read_product, sent, swollen, taken
from leakpost.wishes import grants
from straight import all_scenes, any_lab, any_wishes, is_of, is_plain, post

# Two machines that never stop: letters come to lie behind one another without end.
TURNING = Lab([("left", "go")], [("road", "")], [
    ("left", "go", ("send", "road", "a"), "wait"), ("left", "wait", ("send", "road", "b"), "go")])
# The left one fills the road at one stand, the right one takes letters off it.
FILLING = Lab([("left", "go"), ("right", "stop")], [("road", "c")], [
    ("left", "go", ("send", "road", "b"), "go"), ("left", "go", ("send", "road", "a"), "go"),
    ("left", "go", ("idle",), "end"), ("right", "stop", ("take", "road", "b"), "run"),
    ("right", "run", ("bare", "road"), "end")])


def part(stands, *texts):
    """The part of these stands and the products that the texts write."""
    return (tuple(stands.split()), tuple(read_product(text) for text in texts))


def in_part(one, other):
    """Whether the one part lies in the other one."""
    return one[0] == other[0] and all(inside(small, great) for small, great in zip(one[1], other[1]))


def of_part(one, scene):
    """Whether the scene is of the part."""
    return one[0] == scene[0] and all(is_of(product, word) for product, word in zip(one[1], scene[1]))


def made(lab, one, place):
    """What the move makes of the part, nothing swollen, or None."""
    machine, start, act, end = lab.moves()[place]
    stands = dict(zip([name for name, first in lab.machines()], one[0]))
    products = dict(zip([name for name, word in lab.rows()], one[1]))
    if stands[machine] != start:
        return None
    stands[machine] = end
    if act[0] == "send":
        products[act[1]] = sent(products[act[1]], act[2])
    if act[0] == "take":
        products[act[1]] = taken(products[act[1]], act[2])
        if products[act[1]] is None:
            return None
    if act[0] == "bare":
        products[act[1]] = ()
    return (tuple(stands.values()), tuple(products.values()))


def made_all(lab, parts):
    """All that the moves make of the parts, nothing swollen."""
    told = [made(lab, one, place) for one in parts for place in range(len(lab))]
    return [one for one in told if one is not None]


def swelled(lab, one):
    """The part with its products swollen."""
    stands = dict(zip([name for name, first in lab.machines()], one[0]))
    products = []
    for (row, word), product in zip(lab.rows(), one[1]):
        letters = {act[2] for machine, start, act, end in lab.moves()
                   if act[:2] == ("send", row) and start == end == stands[machine]}
        products.append(swollen(product, "".join(sorted(letters))))
    return (one[0], tuple(products))


def cover_as_told(lab, most, deep):
    """The cover, or the number that Heavy bears."""
    begin = lab.begin()
    parts = [swelled(lab, (begin[0], tuple(product_of(word) for word in begin[1])))]
    ahead = None
    for at in itertools.count():
        if len(parts) > most:
            return at
        if parts == ahead:
            return parts
        if at == deep:
            return at
        ahead = parts
        unlike = set(parts) | {swelled(lab, one) for one in made_all(lab, parts)}
        parts = sorted(one for one in unlike if not any(one != other and in_part(one, other) for other in unlike))


def cover_or_number(lab, **bounds):
    """The cover, or the number that Heavy bears."""
    try:
        return cover(lab, **bounds)
    except Heavy as error:
        return error.at


class TestCover(unittest.TestCase):
    def heavy(self, at, lab, **bounds):
        """That the cover is refused with the number."""
        with self.assertRaises(Heavy) as caught:
            cover(lab, **bounds)
        self.assertEqual((caught.exception.at, caught.exception.word), (at, "heavy"))

    def test_labs_that_lack_something(self):
        self.assertEqual(cover(Lab()), [((), ())])
        self.assertEqual(cover(Lab([("left", "go")])), [(("go",), ())])
        self.assertEqual(cover(Lab([], [("road", "aab")])), [part("", "a a b")])
        self.assertEqual(cover(lab=Lab([("left", "go")], [("road", ""), ("back", "c")])), [part("go", "-", "c")])
        no_rows = Lab([("left", "go")], [], [("left", "go", ("idle",), "end"), ("left", "far", ("idle",), "go")])
        self.assertEqual(cover(no_rows), [part("end"), part("go")])

    def test_by_hand(self):
        self.assertEqual(cover(FILLING), [
            part("end end", "ab*"), part("end run", "ab*"), part("end stop", "c ab*"),
            part("go end", "ab*"), part("go run", "ab*"), part("go stop", "c ab*")])
        lab = Lab([("left", "go"), ("right", "stop")], [("road", "ab"), ("back", "")], [
            ("right", "stop", ("take", "road", "b"), "run"), ("left", "go", ("send", "road", "c"), "go"),
            ("right", "run", ("send", "back", "d"), "run"), ("left", "go", ("bare", "back"), "end")])
        self.assertEqual(cover(lab), [
            part("end run", "c*", "d*"), part("end stop", "a b c*", "-"),
            part("go run", "c*", "d*"), part("go stop", "a b c*", "-")])

    def test_a_move_of_each_act(self):
        for act, product in (
                (("send", "road", "c"), "a b c"), (("take", "road", "a"), "b"), (("take", "road", "b"), "-"),
                (("bare", "road"), "-"), (("idle",), "a b")):
            lab = Lab([("left", "go")], [("road", "ab")], [("left", "go", act, "end")])
            self.assertEqual(cover(lab), [part("end", product), part("go", "a b")])
        lab = Lab([("left", "go")], [("road", "ab")], [("left", "go", ("take", "road", "c"), "end")])
        self.assertEqual(cover(lab), [part("go", "a b")])

    def test_moves_that_begin_and_end_at_one_stand(self):
        def looping(*acts, word="ab", end="go"):
            return Lab([("left", "go")], [("road", word)], [("left", "go", act, end) for act in acts])
        self.assertEqual(cover(looping(("send", "road", "b"))), [part("go", "a b*")])
        self.assertEqual(cover(looping(("send", "road", "c"), ("send", "road", "a"))), [part("go", "a b ac*")])
        self.assertEqual(cover(looping(("send", "road", "b"), ("send", "road", "a"))), [part("go", "ab*")])
        self.assertEqual(cover(looping(("take", "road", "a"))), [part("go", "a b")])
        self.assertEqual(cover(looping(("bare", "road"))), [part("go", "a b")])
        self.assertEqual(cover(looping(("idle",))), [part("go", "a b")])
        self.assertEqual(cover(looping(("send", "road", "b"), end="end")), [part("end", "a b b"), part("go", "a b")])
        # A stand that the machine is not at lets nothing swell, nor does another machine at a stand of that name.
        lab = Lab([("left", "go"), ("right", "stop")], [("road", "")], [
            ("left", "stop", ("send", "road", "a"), "stop"), ("right", "go", ("send", "road", "b"), "go")])
        self.assertEqual(cover(lab), [part("go stop", "-")])

    def test_each_row_swells_by_its_own_letters(self):
        lab = Lab([("left", "go"), ("right", "stop")], [("road", "x"), ("back", "y"), ("side", "z")], [
            ("left", "go", ("send", "back", "b"), "go"), ("right", "stop", ("send", "road", "a"), "stop"),
            ("right", "stop", ("send", "back", "c"), "stop"), ("left", "go", ("idle",), "end")])
        self.assertEqual(cover(lab), [part("end stop", "x a*", "y bc*", "z"), part("go stop", "x a*", "y bc*", "z")])

    def test_parts_that_lie_in_one_another_go(self):
        lab = Lab([("left", "go")], [("road", "")], [
            ("left", "go", ("send", "road", "a"), "end"), ("left", "go", ("idle",), "end"),
            ("left", "end", ("take", "road", "a"), "go")])
        self.assertEqual(cover(lab), [part("end", "a"), part("go", "-")])
        # A part may come to lie in one of a later round, and be gone then.
        lab = Lab([("left", "go")], [("road", "")], [
            ("left", "go", ("idle",), "end"), ("left", "go", ("idle",), "mid"),
            ("left", "mid", ("send", "road", "a"), "end")])
        self.assertEqual(cover(lab), [part("end", "a"), part("go", "-"), part("mid", "-")])

    def test_parts_of_one_stand_that_lie_not_in_one_another_stay(self):
        lab = Lab([("left", "go")], [("road", ""), ("back", "")], [
            ("left", "go", ("send", "road", "a"), "end"), ("left", "go", ("send", "back", "a"), "end")])
        self.assertEqual(cover(lab), [part("end", "-", "a"), part("end", "a", "-"), part("go", "-", "-")])

    def test_the_bounds(self):
        self.assertEqual((MOST_LIST, MOST_DEEP), (60, 40))
        for lab in (Lab(), post(), TURNING, FILLING):
            self.heavy(0, lab, most=0)
            self.heavy(0, lab, deep=0)
            self.heavy(0, lab, most=0, deep=0)
        self.assertEqual(cover(Lab(), most=1, deep=1), [((), ())])
        self.assertEqual(cover(FILLING, most=6), cover(FILLING))
        self.heavy(3, FILLING, most=5)
        self.heavy(2, FILLING, most=4)
        self.heavy(1, FILLING, most=2)
        self.assertEqual(cover(FILLING, deep=4), cover(FILLING))
        self.heavy(3, FILLING, deep=3)
        # Of both bounds that of the parts is looked at first; the number is the same.
        self.heavy(1, FILLING, most=2, deep=1)
        self.heavy(2, FILLING, most=5, deep=2)
        self.heavy(3, FILLING, most=5, deep=4)

    def test_what_goes_on_for_ever(self):
        self.heavy(40, TURNING)
        self.heavy(cover_as_told(post(), 60, 40), post())
        self.heavy(7, TURNING, deep=7)
        self.heavy(400, TURNING, deep=400)
        self.heavy(1, TURNING, most=1)

    def test_the_default_most(self):
        # Each choice of four doubles the words; at the end there are more than sixty unlike ones.
        moves = [("left", stand, ("send", "road", letter), after)
                 for stand, after in zip("abcde", "bcdef") for letter in "xyz"]
        wide = Lab([("left", "a")], [("road", "")], moves)
        self.heavy(4, wide)
        self.heavy(4, wide, most=120)
        self.assertEqual(len(cover(wide, most=400)), 1 + 3 + 9 + 27 + 81 + 243)
        self.heavy(5, wide, most=363)
        self.assertEqual(len(cover(wide, most=364)), 364)
        self.heavy(5, wide, most=400, deep=5)

    def test_many_labs_as_told(self):
        heavy = 0
        for seed in range(200):
            lab = any_lab(seed, moves=seed % 11, most=3 if seed % 3 == 0 else 2)
            for most, deep in ((60, 40), (5, 6), (12, 9), (3, 3)):
                told = cover_or_number(lab, most=most, deep=deep)
                self.assertEqual(told, cover_as_told(lab, most, deep))
                heavy += isinstance(told, int)
        self.assertTrue(100 < heavy < 700, heavy)

    def test_many_labs_with_loops_as_told(self):
        covers = 0
        for seed in range(200):
            lab = any_lab(seed, moves=8, letters="abc", stands="pq")
            told = cover_or_number(lab, most=30, deep=12)
            self.assertEqual(told, cover_as_told(lab, 30, 12))
            if isinstance(told, list):
                covers += 1
                self.assertEqual(told, sorted(told))
                for one in told:
                    self.assertTrue(all(is_plain(product) for product in one[1]))
                for one, other in itertools.permutations(told, 2):
                    self.assertFalse(in_part(one, other))
        self.assertGreater(covers, 100)

    def test_the_scenes_of_a_cover_are_those_that_can_come(self):
        tried = 0
        for seed in range(250):
            lab = any_lab(seed, moves=7, stands="pq", most_word=2)
            told = cover_or_number(lab)
            if isinstance(told, int):
                continue
            for scene in all_scenes(lab, long=2):
                wish = (tuple((name, stand) for (name, first), stand in zip(lab.machines(), scene[0])),
                        tuple((name, held) for (name, word), held in zip(lab.rows(), scene[1])))
                tried += 1
                self.assertIs(any(of_part(one, scene) for one in told), answer(lab, [wish])[0] == "comes")
        self.assertGreater(tried, 3000)

    def test_asked_again_a_new_list_is_told(self):
        first = cover(FILLING)
        told = cover(FILLING)
        self.assertIsNot(told, first)
        told.clear()
        self.assertEqual(cover(FILLING), first)


class TestShuts(unittest.TestCase):
    def test_by_hand(self):
        parts = cover(FILLING)
        self.assertIs(shuts(FILLING, parts), True)
        self.assertIs(shuts(parts=tuple(reversed(parts)), lab=FILLING), True)
        for one in parts:
            self.assertIs(shuts(FILLING, [other for other in parts if other != one]), False)
        self.assertIs(shuts(FILLING, []), False)
        self.assertIs(shuts(FILLING, ()), False)

    def test_such_as_just_do_not(self):
        lab = Lab([("left", "go")], [("road", "a")], [("left", "go", ("send", "road", "b"), "go")])
        for text, told in (
                ("a b*", True), ("ab*", True), ("a ab*", True), ("a b* c", False), ("a", False), ("a b", False),
                ("b*", False), ("a b b b", False), ("c a b*", True), ("a* b*", True), ("a b* b", True),
                ("b* a", False)):
            self.assertIs(shuts(lab, [part("go", text)]), told)
        # Together they have all, but no one of them has what the move makes of the second one.
        self.assertIs(shuts(lab, [part("go", "a"), part("go", "a b")]), False)
        self.assertIs(shuts(lab, [part("go", "a"), part("go", "b*")]), False)
        self.assertIs(shuts(lab, [part("go", "a"), part("go", "a b*")]), True)

    def test_nothing_is_swollen(self):
        lab = Lab([("left", "go")], [("road", "")], [
            ("left", "go", ("idle",), "end"), ("left", "end", ("send", "road", "a"), "end")])
        self.assertIs(shuts(lab, [part("go", "-"), part("end", "-")]), False)
        self.assertIs(shuts(lab, [part("go", "-"), part("end", "a*")]), True)

    def test_the_begin_is_of_one_of_them(self):
        lab = Lab([("left", "go")], [("road", "ab"), ("back", "")], [("left", "go", ("idle",), "end")])
        self.assertIs(shuts(lab, [part("go", "a b", "-"), part("end", "a b", "-")]), True)
        self.assertIs(shuts(lab, [part("go", "a", "-"), part("end", "a b", "-")]), False)
        self.assertIs(shuts(lab, [part("end", "a b", "-")]), False)
        self.assertIs(shuts(lab, [part("go", "a c b", "x*"), part("end", "abc*", "x* y")]), True)

    def test_a_move_of_each_act(self):
        for act, good, bad in (
                (("send", "road", "c"), "a b c", "a b"), (("take", "road", "a"), "b", "-"),
                (("take", "road", "b"), "-", None), (("bare", "road"), "-", None), (("idle",), "a b", "a")):
            lab = Lab([("left", "go")], [("road", "ab")], [("left", "go", act, "end")])
            self.assertIs(shuts(lab, [part("go", "a b"), part("end", good)]), True)
            self.assertIs(shuts(lab, [part("go", "a b")]), False)
            if bad is not None:
                self.assertIs(shuts(lab, [part("go", "a b"), part("end", bad)]), False)
        # What can't be done makes nothing.
        lab = Lab([("left", "go")], [("road", "ab")], [("left", "go", ("take", "road", "c"), "end")])
        self.assertIs(shuts(lab, [part("go", "a b")]), True)
        self.assertIs(shuts(lab, [part("go", "a b c")]), False)

    def test_labs_that_lack_something(self):
        self.assertIs(shuts(Lab(), [((), ())]), True)
        self.assertIs(shuts(Lab(), []), False)
        self.assertIs(shuts(Lab([], [("road", "a")]), [part("", "a b")]), True)
        self.assertIs(shuts(Lab([], [("road", "a")]), [part("", "b")]), False)
        self.assertIs(shuts(Lab([("left", "go")]), [part("go")]), True)
        no_rows = Lab([("left", "go")], [], [("left", "go", ("idle",), "end")])
        self.assertIs(shuts(no_rows, [part("go")]), False)
        self.assertIs(shuts(no_rows, [part("go"), part("end")]), True)

    def test_many_as_told(self):
        found = []
        for seed in range(150):
            lab = any_lab(seed, moves=5, stands="pq")
            told = cover_or_number(lab, deep=6)
            if isinstance(told, int) or len(told) > 8:
                continue
            everything = [(stands, tuple((("ab", True),) for row in lab.rows())) for stands in
                          itertools.product(*[lab.stands(name) for name, first in lab.machines()])]
            tries = [told, everything, told + everything[:2], everything[1:]]
            tries += [told[:at] + told[at + 1:] for at in range(len(told))]
            tries += [told[:at] + [(told[at][0], tuple(product[:-1] for product in told[at][1]))] + told[at + 1:]
                      for at in range(len(told))]
            for parts in tries:
                wanted = (any(of_part(one, lab.begin()) for one in parts)
                          and all(any(in_part(one, other) for other in parts) for one in made_all(lab, parts)))
                self.assertIs(shuts(lab, parts), wanted)
                found.append(wanted)
            self.assertTrue(shuts(lab, told) and shuts(lab, everything))
        self.assertTrue(100 < found.count(True) < len(found) - 100)


class TestLets(unittest.TestCase):
    def test_by_hand(self):
        parts = cover(FILLING)
        for stands, words, told in (
                ((), (), True), ((("right", "end"),), (), True), ((("right", "end"),), (("road", "aba"),), True),
                ((("right", "end"), ("left", "end")), (("road", ""),), True),
                ((("right", "end"), ("left", "end")), (("road", "c"),), False),
                ((("right", "run"),), (("road", "c"),), False), ((("right", "stop"),), (("road", "cab"),), True),
                ((), (("road", "cab"),), True), ((), (("road", "acb"),), False), ((), (("road", "cc"),), False),
                ((("left", "far"),), (), False), ((("left", "stop"),), (), False)):
            self.assertIs(lets(FILLING, [(stands, words)], parts), told)
            self.assertIs(lets(parts=tuple(parts), wishes=((stands, words),), lab=FILLING), told)

    def test_of_several_wishes_and_parts_one_does(self):
        vain, good = ((("left", "far"),), ()), ((("right", "end"),), (("road", "b"),))
        parts = cover(FILLING)
        self.assertIs(lets(FILLING, [vain, good], parts), True)
        self.assertIs(lets(FILLING, [good, vain], parts), True)
        self.assertIs(lets(FILLING, [good, good], parts), True)
        self.assertIs(lets(FILLING, [vain, vain], parts), False)
        self.assertIs(lets(FILLING, [], parts), False)
        self.assertIs(lets(FILLING, [good], []), False)
        self.assertIs(lets(FILLING, [], []), False)
        self.assertIs(lets(FILLING, [good], parts[1:3]), False)

    def test_the_words_of_several_rows_are_of_one_part(self):
        lab = Lab([("left", "go")], [("road", ""), ("back", "")], [])
        parts = [part("go", "-", "a"), part("go", "a", "-")]
        self.assertIs(lets(lab, [((), (("road", "a"), ("back", "a")))], parts), False)
        self.assertIs(lets(lab, [((), (("back", "a"), ("road", "")))], parts), True)
        self.assertIs(lets(lab, [((), (("road", "a"),))], parts), True)

    def test_labs_that_lack_something(self):
        self.assertIs(lets(Lab(), [((), ())], [((), ())]), True)
        self.assertIs(lets(Lab(), [((), ())], []), False)
        lab = Lab([], [("road", "ab")])
        self.assertIs(lets(lab, [((), (("road", "b"),))], cover(lab)), True)
        self.assertIs(lets(lab, [((), (("road", "ba"),))], cover(lab)), False)

    def test_bad_wishes(self):
        good = ((), ())
        for bad in (
                ((("up", "go"),), ()), ((), (("up", ""),)), ((("left", "go"), ("left", "go")), ()),
                ((), (("road", "a"), ("road", "a"))), ((("left", ""),), ()), ((("left", "Go"),), ()),
                ((("left", "a" * 9),), ()), ((), (("road", "A"),)), ((), (("road", "a" * 9),)),
                ((("road", "go"),), ()), ((), (("left", "a"),))):
            for wishes in ([bad], [good, bad], [bad, good], [good, good, bad]):
                for parts in (cover(FILLING), []):
                    with self.assertRaises(BadWish) as caught:
                        lets(FILLING, wishes, parts)
                    self.assertEqual((caught.exception.at, caught.exception.word), (-1, "badwish"))
        self.assertIs(lets(FILLING, [((("left", "a" * 8),), (("road", "a" * 8),)), good], cover(FILLING)), True)

    def test_many_as_told(self):
        found = []
        for seed in range(200):
            lab = any_lab(seed, moves=6, stands="pq")
            told = cover_or_number(lab)
            if isinstance(told, int):
                continue
            scenes = [scene for scene in all_scenes(lab, long=2) if any(of_part(one, scene) for one in told)]
            for wishes in (any_wishes(lab, seed), any_wishes(lab, seed + 1000)):
                wanted = any(grants(lab, wish, scene) for wish in wishes for scene in scenes)
                self.assertIs(lets(lab, wishes, told), wanted)
                self.assertIs(answer(lab, wishes)[0] == "comes", wanted)
                found.append(wanted)
        self.assertTrue(50 < found.count(True) < len(found) - 50)


if __name__ == "__main__":
    unittest.main()
