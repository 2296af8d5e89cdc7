"""Papers that a bench tells of its wishes, and keeps."""

import random
import unittest

from leakpost.answers import answer, shows
from leakpost.bench import Bench
from leakpost.errors import Heavy, LeakError, NoWish
from leakpost.lab import Lab
from straight import any_lab, any_wishes

END = ((("right", "end"),), ())
LOST = ((("right", "end"),), (("road", "b"),))
MOVES = [
    ("left", "go", ("send", "road", "a"), "go"), ("right", "stop", ("take", "road", "a"), "run"),
    ("right", "run", ("bare", "road"), "end")]


def with_lab(name="post", bench=None):
    """A bench with a lab in which the wish END comes in three moves and LOST never does."""
    bench = Bench() if bench is None else bench
    bench.many([("lab", name), ("machine", name, "left", "go"), ("machine", name, "right", "stop"),
                ("row", name, "road", "b")] + [("move", name) + move for move in MOVES])
    return bench


def with_wishes():
    """The same with both wishes, named end and lost."""
    bench = with_lab()
    bench.wish("end", "post", *END)
    bench.wish("lost", "post", *LOST)
    return bench


class Asked(unittest.TestCase):
    def asks(self, bench, name, searches, **bounds):
        """The paper that is told with so many searches."""
        was = bench.found()
        told = bench.ask(name, **bounds)
        self.assertEqual(bench.found() - was, searches)
        self.assertEqual((told.__class__, told[1].__class__), (tuple, list))
        home, wish = bench.wish_of(name)
        self.assertTrue(shows(bench.lab_of(home), [wish], told))
        return told

    def heavy(self, bench, name, at, **bounds):
        """That the asking is refused, and counts as a search."""
        was = bench.found()
        with self.assertRaises(Heavy) as caught:
            bench.ask(name, **bounds)
        self.assertEqual((caught.exception.at, caught.exception.word), (at, "heavy"))
        self.assertEqual(bench.found(), was + 1)


class TestAsk(Asked):
    def test_as_answer_tells(self):
        bench = with_wishes()
        self.assertEqual(self.asks(bench, "end", 1), answer(bench.lab_of("post"), [END]))
        self.assertEqual(self.asks(bench, "lost", 1), answer(bench.lab_of("post"), [LOST]))
        self.assertEqual((bench.ask(name="end")[0], bench.ask("lost")[0]), ("comes", "never"))

    def test_told_again_without_a_search(self):
        bench = with_wishes()
        for name in ("end", "lost"):
            first = self.asks(bench, name, 1)
            for bounds in ({}, {"most": 0}, {"deep": 0}, {"most": 0, "deep": 0}, {"most": 400, "deep": 400}):
                self.assertEqual(self.asks(bench, name, 0, **bounds), first)

    def test_the_bounds(self):
        bench = with_wishes()
        self.heavy(bench, "end", 0, most=0)
        self.heavy(bench, "end", 0, deep=0)
        self.heavy(bench, "end", 2, deep=2)
        self.heavy(bench, "end", 1, most=1)
        self.assertEqual(self.asks(bench, "end", 1, deep=3)[0], "comes")
        self.heavy(bench, "lost", 0, deep=0)
        self.assertEqual(bench.found(), 6)
        self.assertEqual(self.asks(bench, "lost", 1, deep=400, most=400)[0], "never")

    def test_what_is_not_there_is_not_searched(self):
        bench = with_wishes()
        for name in ("post", "what", ""):
            with self.assertRaises(NoWish):
                bench.ask(name, most=0)
        self.assertEqual(bench.found(), 0)

    def test_lists_that_are_told(self):
        bench = with_wishes()
        for name in ("end", "lost"):
            first = self.asks(bench, name, 1)
            wanted = list(first[1])
            first[1].clear()
            again = self.asks(bench, name, 0)
            self.assertEqual(again[1], wanted)
            again[1].append("what")
            self.assertEqual(self.asks(bench.twin(), name, 0)[1], wanted)

    def test_asking_changes_nothing_else(self):
        bench = with_wishes()
        bench.undo()
        bench.ask("end")
        self.assertEqual((len(bench.deeds()), bench.undone()), (2, [("wish", "lost", "post", *LOST)]))
        self.assertEqual(bench.redo()[1], "lost")


class TestKept(Asked):
    def test_a_run_that_is_still_good(self):
        bench = with_wishes()
        first = self.asks(bench, "end", 1)
        # There is a shorter one now, but the kept one can still be done.
        bench.move("post", "right", "stop", ("idle",), "end")
        self.assertEqual(self.asks(bench, "end", 0), first)
        self.assertEqual(len(answer(bench.lab_of("post"), [END])[1]), 1)
        bench.row("post", "back", "abc")
        bench.machine("post", "third", "go")
        self.assertEqual(self.asks(bench, "end", 0), first)

    def test_a_run_that_is_no_longer_good(self):
        bench = with_wishes()
        first = self.asks(bench, "end", 1)
        bench.strike("post", 0)
        self.assertEqual(self.asks(bench, "end", 1)[0], "never")
        self.assertEqual(self.asks(bench, "end", 0)[0], "never")
        # The paper that was told last is not good for the lab as it was, and the one before is gone.
        bench.undo()
        self.assertEqual(self.asks(bench, "end", 1), first)
        bench.redo()
        self.assertEqual(self.asks(bench, "end", 1)[0], "never")

    def test_not_asked_in_between(self):
        bench = with_wishes()
        first = self.asks(bench, "end", 1)
        bench.strike("post", 0)
        bench.undo()
        self.assertEqual(self.asks(bench, "end", 0), first)

    def test_scenes_that_are_still_good(self):
        bench = with_wishes()
        first = self.asks(bench, "lost", 1)
        bench.strike("post", 0)
        self.assertEqual(self.asks(bench, "lost", 0), first)
        bench.move("post", "left", "go", ("send", "road", "c"), "far")
        self.assertEqual(self.asks(bench, "lost", 1)[0], "never")
        bench.row("post", "back", "")
        self.assertEqual(self.asks(bench, "lost", 1)[0], "never")
        bench.machine("post", "third", "go")
        self.assertEqual(self.asks(bench, "lost", 1)[0], "never")
        for letter in "ab":
            bench.move("post", "third", "go", ("send", "road", letter), "go")
        self.assertEqual(self.asks(bench, "lost", 1)[0], "comes")

    def test_a_heavy_search_leaves_the_paper(self):
        bench = with_wishes()
        first = self.asks(bench, "end", 1)
        bench.strike("post", 0)
        self.heavy(bench, "end", 0, most=0)
        self.heavy(bench, "end", 0, deep=0)
        bench.undo()
        self.assertEqual(self.asks(bench, "end", 0, most=0), first)

    def test_under_another_wishs_name(self):
        bench = with_wishes()
        first = self.asks(bench, "end", 1)
        bench.wish("same", "post", *END)
        self.assertEqual(self.asks(bench, "same", 0), first)
        bench.unwish("end")
        bench.unwish("same")
        bench.wish("lostt", "post", *END)
        self.assertEqual(self.asks(bench, "lostt", 0), first)
        bench.wish("end", "post", (("right", "run"),), ())
        self.assertEqual(self.asks(bench, "end", 1)[0], "comes")

    def test_the_order_of_its_pairs_counts(self):
        bench = with_lab()
        bench.wish("a", "post", (("left", "go"), ("right", "end")), ())
        bench.wish("b", "post", (("right", "end"), ("left", "go")), ())
        self.asks(bench, "a", 1)
        self.asks(bench, "b", 1)
        self.asks(bench, "a", 0)
        bench.row("post", "back", "")
        bench.wish("c", "post", (), (("road", "a"), ("back", "")))
        bench.wish("d", "post", (), (("back", ""), ("road", "a")))
        self.asks(bench, "c", 1)
        self.asks(bench, "d", 1)
        # Nor is a wish the same that says no more but has other pairs.
        bench.wish("e", "post", (), (("road", "a"),))
        self.asks(bench, "e", 1)
        self.assertEqual(bench.found(), 5)

    def test_the_labs_name_counts(self):
        bench = with_lab("other", with_wishes())
        first = self.asks(bench, "end", 1)
        bench.wish("too", "other", *END)
        self.assertEqual(self.asks(bench, "too", 1), first)
        self.assertEqual(self.asks(bench, "end", 0), first)

    def test_a_lab_that_is_dropped_and_made_anew(self):
        bench = with_wishes()
        first = self.asks(bench, "end", 1)
        self.asks(bench, "lost", 1)
        bench.drop("post")
        with self.assertRaises(NoWish):
            bench.ask("end")
        with_lab("post", bench)
        bench.wish("again", "post", *END)
        self.assertEqual(self.asks(bench, "again", 0), first)
        bench.drop("post")
        bench.lab("post")
        bench.machine("post", "right", "end")
        bench.wish("again", "post", *END)
        self.assertEqual(self.asks(bench, "again", 1), ("comes", []))
        bench.row("post", "road", "bbb")
        bench.wish("lost", "post", *LOST)
        self.assertEqual(self.asks(bench, "lost", 1)[0], "comes")

    def test_over_loads_and_many(self):
        bench = with_wishes()
        self.asks(bench, "lost", 1)
        bench.load("post", "left", ("again", ("send", "road", "b")))
        self.assertEqual(self.asks(bench, "lost", 1)[0], "never")
        bench.many([("strike", "post", 0), ("strike", "post", 0)])
        bench.undo()
        bench.undo()
        self.assertEqual(bench.lab_of("post").moves(), MOVES)
        with self.assertRaises(LeakError):
            bench.many([("drop", "post"), ("drop", "post")])
        bench.trial([("drop", "post"), ("lab", "post")])
        self.asks(bench, "lost", 1)
        self.asks(bench, "lost", 0)

    def test_whether_benches_are_alike_does_not_depend_on_it(self):
        one, other = with_wishes(), with_wishes()
        one.ask("end")
        self.assertEqual(one, other)
        self.assertNotEqual(one.found(), other.found())


class TestTwins(Asked):
    def test_a_twin_begins_with_papers_and_count(self):
        bench = with_wishes()
        first = self.asks(bench, "end", 1)
        self.heavy(bench, "lost", 0, deep=0)
        twin = bench.twin()
        self.assertEqual(twin.found(), 2)
        self.assertEqual(self.asks(twin, "end", 0, most=0), first)
        self.assertEqual(self.asks(twin, "lost", 1)[0], "never")
        self.assertEqual((twin.found(), bench.found()), (3, 2))
        self.asks(bench, "lost", 1)
        twin.strike("post", 0)
        self.assertEqual(self.asks(twin, "end", 1)[0], "never")
        self.assertEqual(self.asks(bench, "end", 0), first)
        twin.undo()
        self.asks(twin, "end", 1)
        self.assertEqual((twin.found(), bench.found()), (5, 3))


class TestManyAsks(Asked):
    def test_as_told(self):
        """Papers kept by hand, over edits by chance."""
        kept_good = searched = heavy = 0
        for seed in range(40):
            chance = random.Random(seed)
            bench, kept, count = Bench(), {}, 0
            for name in "ab":
                lab = any_lab(seed + ord(name), moves=6, most=2)
                bench.many([("lab", name)] + [("machine", name) + pair for pair in lab.machines()]
                           + [("row", name) + pair for pair in lab.rows()]
                           + [("move", name) + move for move in lab.moves()])
                for at, wish in enumerate(any_wishes(lab, seed)):
                    bench.wish(name + "xy"[at], name, *wish)
            for each in range(40):
                name = chance.choice("ab")
                try:
                    word = chance.choice(("strike", "move", "undo", "undo", "redo", "row"))
                    if word == "strike":
                        bench.strike(name, chance.randint(0, 5))
                    elif word == "move":
                        machine = chance.choice(bench.lab_of(name).machines())[0]
                        bench.move(name, machine, chance.choice("pqr"), ("idle",), chance.choice("pqr"))
                    elif word == "row":
                        bench.row(name, "new", "ab")
                    elif len(bench.deeds()) > 6:
                        getattr(bench, word)()
                except LeakError:
                    pass
                for wish in bench.wishes():
                    key = bench.wish_of(wish)
                    lab, bounds = bench.lab_of(key[0]), {"most": chance.choice((3, 60)), "deep": chance.choice((1, 40))}
                    if key in kept and shows(lab, [key[1]], kept[key]):
                        kept_good += 1
                    else:
                        count += 1
                        try:
                            kept[key] = answer(lab, [key[1]], **bounds)
                            searched += 1
                        except Heavy as error:
                            heavy += 1
                            with self.assertRaises(Heavy) as caught:
                                bench.ask(wish, **bounds)
                            self.assertEqual(caught.exception.at, error.at)
                            continue
                    self.assertEqual(bench.ask(wish, **bounds), kept[key])
                self.assertEqual(bench.found(), count)
        self.assertTrue(min(kept_good, searched, heavy) > 100, (kept_good, searched, heavy))

    def test_labs_that_lack_something(self):
        bench = Bench()
        bench.lab("none")
        bench.wish("any", "none", (), ())
        self.assertEqual(self.asks(bench, "any", 1), ("comes", []))
        self.assertEqual(bench.lab_of("none"), Lab())


if __name__ == "__main__":
    unittest.main()
