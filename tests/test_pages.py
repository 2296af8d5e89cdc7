"""Deeds in writing, and pages of a bench."""

import random
import unittest

from leakpost.bench import Bench
from leakpost.errors import BadText
from leakpost.pages import bench_of, deed_of, deed_text, page
from straight import any_body

WRITTEN = (
    (("lab", "a"), "lab a"),
    (("drop", "post"), "drop post"),
    (("machine", "post", "left", "go"), "machine post left go"),
    (("row", "post", "road", "ab"), "row post road ab"),
    (("row", "post", "road", ""), "row post road -"),
    (("row", "post", "road", "abcdefghijkl"), "row post road abcdefghijkl"),
    (("move", "post", "left", "go", ("send", "road", "a"), "end"), "move post left go send.road.a end"),
    (("move", "post", "left", "go", ("take", "road", "z"), "end"), "move post left go take.road.z end"),
    (("move", "post", "left", "go", ("bare", "road"), "end"), "move post left go bare.road end"),
    (("move", "post", "left", "go", ("idle",), "go"), "move post left go idle go"),
    (("strike", "post", 0), "strike post 0"),
    (("strike", "post", 23), "strike post 23"),
    (("strike", "post", 999999), "strike post 999999"),
    (("load", "post", "left", ("skip",)), "load post left skip"),
    (("load", "post", "left", ("then", ("again", ("send", "road", "a")), ("bare", "road"))),
     "load post left then(again(send(road,a)),bare(road))"),
    (("wish", "end", "post", (), ()), "wish end post - -"),
    (("wish", "end", "post", (("left", "go"),), ()), "wish end post left:go -"),
    (("wish", "end", "post", (("left", "go"), ("right", "stop")), (("road", "ab"), ("back", ""))),
     "wish end post left:go;right:stop road:ab;back:-"),
    (("wish", "end", "post", (), (("back", ""),)), "wish end post - back:-"),
    (("wish", "end", "post", (("left", "go"), ("left", "go")), (("x", "abcdefghi"), ("x", ""))),
     "wish end post left:go;left:go x:abcdefghi;x:-"),
    (("unwish", "end"), "unwish end"),
    (("many", ()), "all:"),
    (("many", (("lab", "a"),)), "all: lab a"),
    (("many", (("lab", "a"), ("lab", "b"))), "all: lab a& lab b"),
    (("many", (("lab", "a"), ("row", "a", "road", ""), ("wish", "w", "a", (), (("road", ""),)), ("drop", "a"))),
     "all: lab a& row a road -& wish w a - road:-& drop a"),
    (("lab", "lab"), "lab lab"),
    (("lab", "all"), "lab all"),
    (("many", (("lab", "all"), ("lab", "many"))), "all: lab all& lab many"),
)
NO_DEEDS = (
    "", " ", "-", "what", "lab", "lab ", "lab  a", " lab a", "lab a ", "lab a b", "Lab a", "lab A", "lab -",
    "lab aaaaaaaaa", "lab a1", "lab a\n", "\nlab a", "lab a\nlab b", "lab\ta", "labs", "undo", "redo", "ask end",
    "twin", "trial", "many", "many lab a", "drop", "drop A", "drop a b", "machine post left",
    "machine post left go on", "machine post Left go", "machine post left -", "machine Post left go",
    "machine post left  go", "machine post left ", "row post road", "row post road ", "row post road a b",
    "row post road A", "row post road --", "row post road a-", "row post - a", "row post Road a", "row - road a",
    "row post road -a", "move post left go idle", "move post left go idle go on", "move post left go idle ",
    "move post left go skip go", "move post left go send go", "move post left go send.road go",
    "move post left go send.road. go", "move post left go send.road.ab go", "move post left go send.road.a.b go",
    "move post left go send.Road.a go", "move post left go send..a go", "move post left go send.roadroadr.a go",
    "move post left go send.road.A go", "move post left go take.road.- go", "move post left go bare go",
    "move post left go bare. go", "move post left go bare.road.a go", "move post left go idle.road go",
    "move post left go idle. go", "move post left go . go", "move post left go - go",
    "move post left go what.road go", "move post left go send(road,a) go", "move post left go send road a go",
    "move post left go send,road,a go", "move post left go then.road.a go", "move post left go again.road go",
    "move post left Go idle go", "move post left go idle Go", "move post - go idle go", "move post left - idle go",
    "strike post", "strike post ", "strike post -1", "strike post +1", "strike post -0", "strike post 00",
    "strike post 01", "strike post 007", "strike post 1000000", "strike post 1.0", "strike post 1_0", "strike post a",
    "strike post -", "strike post 1 1", "strike post  1", "strike Post 1", "strike post 0x1", "strike post 1e3",
    "strike post 000000", "strike 1 post", "load post left", "load post left ", "load post left idle",
    "load post left skip()", "load post left then(skip,)", "load post left then(skip, skip)", "load post left Skip",
    "load post left skip s", "load post left bare.road", "load post left bare(Road)", "load post left send(road,ab)",
    "load Post left skip", "load post left again(again(again(again(again(again(skip))))))", "load post - skip",
    "wish end post", "wish end post -", "wish end post - - -", "wish end post  ", "wish end post - ",
    "wish end post  -", "wish end post left:go", "wish end post left:go; -", "wish end post ;left:go -",
    "wish end post left -", "wish end post left: -", "wish end post :go -", "wish end post left:- -",
    "wish end post left:go:go -", "wish end post left:go,right:stop -", "wish end post left:go;;right:stop -",
    "wish end post Left:go -", "wish end post left:Go -", "wish end post - road:", "wish end post - road",
    "wish end post - :ab", "wish end post - road:A", "wish end post - road:a:b", "wish end post - road:ab;",
    "wish end post - -:ab", "wish end post - road:--", "wish end post - -;-", "wish end post -;- -",
    "wish End post - -", "wish end - - -", "wish end post left:go; right:stop -", "wish end post left=go -",
    "wish end post - ;", "unwish", "unwish E", "unwish end end", "all", "all: ", "all:lab a", "all:  lab a",
    "all: lab a ", "all: lab a&", "all: lab a&lab b", "all: lab a & lab b", "all: lab a&  lab b", "all: & lab a",
    "all:&", "all: lab a&& lab b", "all: all:", "all: lab a& all:", "all: lab a& all: lab b", "all: all: lab a",
    "all: what", "all: lab A", "all: undo", " all:", "All:", "all :", "all: lab a, lab b", "lab a& lab b", "& lab a",
    "all: lab a\n", "all: lab a&\n lab b", "all:\n",
)


class TestDeeds(unittest.TestCase):
    def test_some(self):
        for deed, text in WRITTEN:
            self.assertEqual(deed_text(deed), text)
            self.assertEqual(deed_of(text), deed)
        self.assertEqual(deed_text(deed=("lab", "a")), "lab a")
        self.assertEqual(deed_of(text="strike a 10"), ("strike", "a", 10))
        self.assertIs(deed_of("strike a 10")[2].__class__, int)

    def test_texts_that_are_no_deeds(self):
        for text in NO_DEEDS:
            for each in (text, f"all: {text}", f"all: lab a& {text}& lab b"):
                # Behind its blank a piece of a many may end or begin with one more deed.
                if not (each.startswith("all: ") and "&" in text):
                    with self.assertRaises(BadText, msg=each) as caught:
                        deed_of(each)
                    self.assertEqual((caught.exception.at, caught.exception.word), (0, "badtext"))
            with self.assertRaises(BadText, msg=text):
                deed_of(text)

    def test_places(self):
        for place in list(range(130)) + [999, 1000, 12345, 99999, 100000, 999999]:
            self.assertEqual(deed_text(("strike", "a", place)), f"strike a {place}")
            self.assertEqual(deed_of(f"strike a {place}"), ("strike", "a", place))
        for text in ("1000000", "9999999", "0" * 7, "1" * 30, "-5"):
            with self.assertRaises(BadText):
                deed_of(f"strike a {text}")

    def test_bodies(self):
        for seed in range(200):
            deed = ("load", "post", "left", any_body(seed))
            self.assertEqual(deed_of(deed_text(deed)), deed)

    def test_long_texts(self):
        deeds = tuple(("lab", "a") for each in range(400))
        self.assertEqual(deed_of(deed_text(("many", deeds))), ("many", deeds))
        deed = ("row", "a", "road", "ab" * 3000)
        self.assertEqual(deed_of(deed_text(deed)), deed)

    def test_texts_bent_in_one_place(self):
        chance = random.Random(3)
        read = 0
        for deed, text in WRITTEN:
            for at in range(len(text)):
                for sign in ("", chance.choice("abz"), chance.choice("A-.:;&"), " ", "\n", "0"):
                    bent = text[:at] + sign + text[at + 1:]
                    try:
                        told = deed_of(bent)
                    except BadText as error:
                        self.assertEqual(error.at, 0)
                    else:
                        read += 1
                        self.assertEqual(deed_text(told), bent)
        self.assertGreater(read, 300)


LINES = [
    "lab post", "machine post left go", "machine post right stop", "row post road b", "row post back -",
    "move post left go send.road.a go", "all: move post right stop take.road.a run& move post right run bare.road end",
    "wish end post right:end -", "wish two post left:go;right:end road:-;back:-", "strike post 0", "lab other", "all:",
    "load post left again(send(road,c))", "drop other", "unwish two", "lab other"]
PAGE = "".join(line + "\n" for line in LINES)


class TestPages(unittest.TestCase):
    def bad(self, at, text):
        """That the page is refused with the number."""
        with self.assertRaises(BadText) as caught:
            bench_of(text)
        self.assertEqual((caught.exception.at, caught.exception.word), (at, "badtext"), text)

    def test_written_and_read(self):
        bench = Bench()
        self.assertEqual(page(bench), "")
        self.assertEqual(bench_of(""), bench)
        for at, line in enumerate(LINES):
            bench.do(deed_of(line))
            self.assertEqual(page(bench=bench), "".join(each + "\n" for each in LINES[:at + 1]))
            told = bench_of(text=page(bench))
            self.assertIs(told.__class__, Bench)
            self.assertEqual((told, told.deeds(), told.undone(), told.found()), (bench, bench.deeds(), [], 0))

    def test_what_was_taken_back_is_not_on_it(self):
        bench = bench_of(PAGE)
        self.assertEqual(page(bench), PAGE)
        bench.undo()
        bench.undo()
        self.assertEqual(page(bench), "".join(line + "\n" for line in LINES[:-2]))
        told = bench_of(page(bench))
        self.assertEqual((told, told.undone()), (bench, []))
        bench.redo()
        self.assertEqual(page(bench), "".join(line + "\n" for line in LINES[:-1]))
        self.assertEqual(len(bench.undone()), 1)

    def test_a_read_bench_can_take_back(self):
        bench = bench_of(PAGE)
        for line in LINES[::-1]:
            self.assertEqual(deed_text(bench.undo()), line)
        self.assertEqual(bench, Bench())

    def test_deeds_that_were_handed_in_as_lists(self):
        bench = Bench()
        bench.many([("lab", "a"), ("machine", "a", "left", "go")])
        bench.move("a", "left", "go", ["idle"], "go")
        bench.wish("w", "a", [["left", "go"]], [])
        self.assertEqual(page(bench), "all: lab a& machine a left go\nmove a left go idle go\nwish w a left:go -\n")

    def test_lines_that_are_no_deeds(self):
        for text in NO_DEEDS:
            if "\n" not in text:
                for at in (0, 5, len(LINES)):
                    self.bad(at, "".join(each + "\n" for each in LINES[:at] + [text] + LINES[at:]))
        self.bad(len(LINES), PAGE + "\n")
        self.bad(0, "\n" + PAGE)

    def test_lines_that_are_refused(self):
        for at, line in (
                (0, "drop post"), (1, "lab post"), (1, "machine posts left go"), (1, "strike post 0"),
                (2, "machine post left stop"), (4, "row post road -"), (4, "row post back abcdefghi"),
                (5, "move post up go idle go"), (5, "move post left go bare.up go"), (5, "load post left bare(up)"),
                (7, "all: lab a& lab a"), (8, "wish end post - -"), (8, "wish new post up:go -"),
                (8, "wish new post left:go;left:go -"), (8, "unwish new"), (8, "load post up skip"),
                (12, "strike post 999999"), (16, "lab other")):
            self.bad(at, "".join(each + "\n" for each in LINES[:at] + [line] + LINES[at:]))
            self.bad(at, "".join(each + "\n" for each in LINES[:at] + [line, "what"]))

    def test_one_beyond_the_bounds(self):
        labs = "".join(f"lab {name}\n" for name in "abcdef")
        self.assertEqual(len(bench_of(labs)), 6)
        self.bad(6, labs + "lab g\n")
        wishes = "lab a\n" + "".join(f"wish {name} a - -\n" for name in "abcdefghijkl")
        self.assertEqual(len(bench_of(wishes).wishes()), 12)
        self.bad(13, wishes + "wish m a - -\n")
        moves = "lab a\nmachine a left go\n" + "move a left go idle go\n" * 24
        self.assertEqual(len(bench_of(moves).lab_of("a")), 24)
        self.bad(26, moves + "move a left go idle go\n")
        self.bad(4, "lab a\n" + "".join(f"machine a {name} go\n" for name in "abcd"))
        self.bad(4, "lab a\n" + "".join(f"row a {name} -\n" for name in "abcd"))
        self.bad(7, "lab a\nmachine a left go\n" + "".join(f"move a left go idle {name}\n" for name in "abcdef"))

    def test_what_stands_behind_the_last_line_feed(self):
        for text, at in (
                ("lab a", 0), (" ", 0), ("what", 0), ("lab a\nlab b", 1), ("lab a\n ", 1), (PAGE + "lab x", len(LINES)),
                (PAGE[:-1], len(LINES) - 1), ("lab a\nlab a", 1)):
            self.bad(at, text)
        self.bad(0, "what\nlab a")
        self.bad(1, "lab a\nlab a\nlab b")

    def test_pages_bent_in_one_place(self):
        for at in range(len(PAGE)):
            for sign in ("", "q", " ", "\n", "-"):
                bent = PAGE[:at] + sign + PAGE[at + 1:]
                try:
                    told = bench_of(bent)
                except BadText as error:
                    self.assertTrue(PAGE[:at].count("\n") <= error.at <= len(LINES))
                else:
                    self.assertEqual(page(told), bent)


if __name__ == "__main__":
    unittest.main()
