"""Moves turned back, and the layers of wishes."""

import unittest

from leakpost import back
from leakpost.back import Search, turned
from leakpost.errors import BadScene, BadWish, Heavy, NoDeed, NoMove
from leakpost.lab import Lab
from leakpost.wishes import least_of
from straight import (
    all_scenes, any_lab, any_wishes, granted, leads, least_as_told, lies_above, lower, moved, next_layer, post)

BAD_SCENES = (
    ((), ()), (("go",), ("", "")), (("go", "stop"), ("",)), (("stop", "go"), ("", "")), (("go", "stop"), ("A", "")),
)
BAD_PLACES = (-1, 6, 400, -6, 10 ** 29)
# Stands e, d, .. a, one take of either letter from each to the one ahead: layers double.
DOUBLE = Lab([("m", "e")], [("r", "")], [
    ("m", "bcde"[at // 2], ("take", "r", "xy"[at % 2]), "abcd"[at // 2]) for at in range(8)])
TO_A = [((("m", "a"),), ())]


class TestTurned(unittest.TestCase):
    def setUp(self):
        self.lab = post()

    def test_send(self):
        for word, before in (("ba", "b"), ("a", ""), ("", ""), ("ab", "ab"), ("aa", "a"), ("aab", "aab")):
            self.assertEqual(turned(self.lab, 0, (("wait", "run"), (word, "a"))), (("go", "run"), (before, "a")))

    def test_take(self):
        for word in ("", "a", "ba", "bbb"):
            self.assertEqual(turned(self.lab, 2, (("go", "run"), (word, "b"))), (("go", "stop"), ("a" + word, "b")))

    def test_bare(self):
        self.assertEqual(turned(self.lab, 4, (("go", "end"), ("", "ab"))), (("go", "run"), ("", "ab")))
        for word in ("a", "b", "ab"):
            self.assertIsNone(turned(self.lab, 4, (("go", "end"), (word, ""))))

    def test_idle(self):
        self.assertEqual(turned(self.lab, 5, (("go", "end"), ("b", "ab"))), (("wait", "end"), ("b", "ab")))

    def test_another_end(self):
        for place, stands in ((0, ("go", "run")), (1, ("wait", "run")), (2, ("go", "stop")), (3, ("go", "run")),
                              (4, ("go", "run")), (5, ("wait", "stop"))):
            self.assertIsNone(turned(self.lab, place, (stands, ("", ""))))

    def test_bad_scenes_go_ahead_of_bad_places(self):
        for scene in BAD_SCENES:
            for place in (0, 5) + BAD_PLACES:
                with self.assertRaises(BadScene) as caught:
                    turned(self.lab, place, scene)
                self.assertEqual(caught.exception.at, -1)

    def test_bad_places(self):
        for place in BAD_PLACES:
            with self.assertRaises(NoMove) as caught:
                turned(self.lab, place, self.lab.begin())
            self.assertEqual(caught.exception.at, -1)
        with self.assertRaises(NoMove):
            turned(Lab(), 0, ((), ()))

    def test_by_names(self):
        here = (("go", "end"), ("", ""))
        self.assertEqual(turned(scene=here, place=4, lab=self.lab), (("go", "run"), ("", "")))

    def test_it_is_the_least_scene_from_which_the_move_leads_above(self):
        for seed in range(8):
            lab = any_lab(seed, moves=4, stands="pq")
            sources = all_scenes(lab, long=3)
            for place in range(len(lab)):
                led = {source: leads(lab, source, place) for source in sources}
                for goal in all_scenes(lab, long=1):
                    told = [source for source in sources if any(lies_above(one, goal) for one in led[source])]
                    least = least_as_told(told)
                    self.assertEqual(least, [scene for scene in [turned(lab, place, goal)] if scene is not None])


class TestSearch(unittest.TestCase):
    def test_the_constants(self):
        self.assertEqual((back.MOST_LIST, back.MOST_DEEP), (60, 40))

    def test_it_has_layer_nought_at_first(self):
        wishes = [((("left", "go"),), (("road", "b"),))]
        search = Search(post(), wishes)
        self.assertEqual(len(search), 1)
        self.assertEqual(search.layer(0), least_of(post(), wishes))

    def test_layers_one_by_one(self):
        search = Search(DOUBLE, TO_A)
        self.assertEqual(search.layer(0), [(("a",), ("",))])
        one = [(("a",), ("",)), (("b",), ("x",)), (("b",), ("y",))]
        self.assertEqual(search.more(), one)
        two = one + [(("c",), (word,)) for word in ("xx", "xy", "yx", "yy")]
        self.assertEqual(search.more(), two)
        self.assertEqual(len(search), 3)
        self.assertEqual([search.layer(at) for at in range(3)], [[(("a",), ("",))], one, two])

    def test_lower_ones_take_the_place_of_what_lies_above(self):
        lab = Lab([("m", "a")], [("r", "")], [("m", "a", ("send", "r", "b"), "a"), ("m", "a", ("send", "r", "c"), "a")])
        search = Search(lab, [((), (("r", "cbb"),)), ((), (("r", "bc"),))])
        self.assertEqual(search.layer(0), [(("a",), ("bc",)), (("a",), ("cbb",))])
        self.assertEqual(search.more(), [(("a",), ("b",))])
        self.assertEqual(search.more(), [(("a",), ("",))])
        self.assertEqual(search.more(), [(("a",), ("",))])

    def test_layers_go_on_where_nothing_comes_any_more(self):
        search = Search(DOUBLE, TO_A)
        for each in range(10):
            search.more()
        self.assertEqual(len(search), 11)
        self.assertEqual(search.layer(10), search.layer(4))
        self.assertEqual(len(search.layer(4)), 31)
        self.assertEqual(len(search.layer(3)), 15)

    def test_no_wishes_and_wishes_in_vain(self):
        for wishes in ([], (), [((("m", "z"),), ())]):
            search = Search(DOUBLE, wishes, most=0)
            self.assertEqual(search.layer(0), [])
            self.assertEqual(search.more(), [])
            self.assertEqual(len(search), 2)
            self.assertIsNone(search.since(DOUBLE.begin()))

    def test_labs_with_nothing(self):
        search = Search(Lab(), [((), ())])
        self.assertEqual(search.layer(0), [((), ())])
        self.assertEqual(search.more(), [((), ())])
        self.assertEqual(search.since(((), ())), 0)

    def test_bad_wishes(self):
        for wish in (((("k", "a"),), ()), ((), (("up", ""),)), ((("m", "A"),), ()), ((), (("r", "abcdefghi"),))):
            for most in (0, 60):
                with self.assertRaises(BadWish):
                    Search(DOUBLE, [((), ()), wish], most=most)

    def test_heavy_at_layer_nought(self):
        wish = [((), ())]
        for most in (0, 1, 4):
            with self.assertRaises(Heavy) as caught:
                Search(DOUBLE, wish, most=most)
            self.assertEqual(caught.exception.at, 0)
        self.assertEqual(len(Search(DOUBLE, wish, most=5).layer(0)), 5)

    def test_heavy_at_later_layers_does_nothing(self):
        for most, at in ((1, 1), (2, 1), (3, 2), (6, 2), (7, 3), (14, 3), (15, 4), (30, 4)):
            search = Search(DOUBLE, TO_A, most=most)
            for each in range(at - 1):
                search.more()
            kept = [search.layer(each) for each in range(at)]
            for again in range(3):
                with self.assertRaises(Heavy) as caught:
                    search.more()
                self.assertEqual(caught.exception.at, at)
                self.assertEqual(len(search), at)
            self.assertEqual([search.layer(each) for each in range(at)], kept)
            with self.assertRaises(NoDeed):
                search.layer(at)
        search = Search(DOUBLE, TO_A, most=31)
        for each in range(400):
            search.more()
        self.assertEqual(len(search), 401)

    def test_most_left_out_is_sixty(self):
        # 61 scenes of one letter each, more than a lab has letters, so of several rows.
        three = Lab([("m", "p")], [("r", ""), ("s", ""), ("t", "")], [("m", "q", ("idle",), "p")])
        words = [first + other for first in "abcdefg" for other in "abcdefghi"]
        for many, heavy in ((60, False), (61, True)):
            wishes = [((("m", "q"),), (("r", word),)) for word in words[:many]]
            if heavy:
                with self.assertRaises(Heavy):
                    Search(three, wishes)
            else:
                self.assertEqual(len(Search(three, wishes).layer(0)), 60)

    def test_layer_that_was_not_made(self):
        search = Search(DOUBLE, TO_A)
        for at in (1, 2, -1, -2, 400, 10 ** 29):
            with self.assertRaises(NoDeed) as caught:
                search.layer(at)
            self.assertEqual(caught.exception.at, -1)
        search.more()
        self.assertEqual(len(search.layer(at=1)), 3)
        with self.assertRaises(NoDeed):
            search.layer(2)
        with self.assertRaises(NoDeed):
            search.layer(-1)

    def test_since(self):
        search = Search(DOUBLE, TO_A)
        here = (("c",), ("zxzyz",))
        self.assertIsNone(search.since(here))
        search.more()
        self.assertIsNone(search.since(here))
        search.more()
        self.assertEqual(search.since(here), 2)
        search.more()
        self.assertEqual(search.since(here), 2)
        self.assertEqual(search.since((("a",), ("xx",))), 0)
        self.assertEqual(search.since((("b",), ("y",))), 1)
        self.assertIsNone(search.since((("c",), ("x",))))
        self.assertIsNone(search.since(scene=DOUBLE.begin()))

    def test_since_of_bad_scenes(self):
        search = Search(DOUBLE, TO_A)
        for scene in (((), ()), (("a",), ()), (("z",), ("",)), (("a",), ("X",)), (("a", "a"), ("",))):
            with self.assertRaises(BadScene):
                search.since(scene)

    def test_told_lists_are_the_callers(self):
        search = Search(DOUBLE, TO_A)
        search.layer(0).clear()
        search.more().clear()
        search.layer(1).append("more")
        self.assertEqual(len(search.layer(1)), 3)
        self.assertEqual(len(search.more()), 7)
        self.assertEqual(search.layer(0), [(("a",), ("",))])

    def test_wishes_handed_in_may_change_behind(self):
        wishes = list(TO_A)
        search = Search(DOUBLE, wishes)
        self.assertEqual(wishes, TO_A)
        wishes.clear()
        wishes.append(((("m", "b"),), ()))
        self.assertEqual(search.layer(0), [(("a",), ("",))])
        self.assertEqual(len(search.more()), 3)

    def test_by_names(self):
        search = Search(wishes=TO_A, lab=DOUBLE, most=60)
        self.assertEqual(len(search.more()), 3)
        with self.assertRaises(TypeError):
            Search(DOUBLE, TO_A, 60)


class TestLayersAsTold(unittest.TestCase):
    def test_many_labs(self):
        for seed in range(60):
            lab = any_lab(seed, moves=8, most=2 + seed % 2)
            wishes = any_wishes(lab, seed + 7)
            search = Search(lab, wishes, most=400)
            layer = search.layer(0)
            for at in range(1, 6):
                layer = next_layer(lab, layer)
                self.assertEqual(search.more(), layer)

    def test_a_layer_tells_from_where_so_many_moves_lead_to_a_granted_wish(self):
        for seed in range(12):
            lab = any_lab(seed, moves=5, stands="pq")
            wishes = any_wishes(lab, seed)
            search = Search(lab, wishes, most=400)
            search.more()
            search.more()
            for scene in all_scenes(lab):
                self.assertEqual(search.since(scene), self.moves_needed(lab, wishes, scene))

    def moves_needed(self, lab, wishes, scene):
        level = lower(scene)
        for at in range(3):
            if any(granted(lab, wish, one) for wish in wishes for one in level):
                return at
            told = {moved(lab, one, place) for one in level for place in range(len(lab))} - {None}
            level = {low for one in told for low in lower(one)}
        return None


if __name__ == "__main__":
    unittest.main()
