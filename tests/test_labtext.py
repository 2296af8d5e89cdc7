"""Labs in writing."""

import unittest

from leakpost.errors import BadText
from leakpost.lab import Lab
from leakpost.labtext import lab_text, read_lab
from straight import any_lab, post

POST = """machine left go
machine right stop
row road ab
row back -
move left go send.road.a wait
move left wait take.back.b go
move right stop take.road.a run
move right run send.back.b stop
move right run bare.road end
move left wait idle go
"""


def text_as_told(lab):
    """The lab's text."""
    lines = [f"machine {name} {first}" for name, first in lab.machines()]
    lines += [f"row {name} {word or '-'}" for name, word in lab.rows()]
    lines += [f"move {name} {start} {'.'.join(act)} {end}" for name, start, act, end in lab.moves()]
    return "".join(line + "\n" for line in lines)


class TestWriting(unittest.TestCase):
    def test_some(self):
        for lab, text in (
                (Lab(), ""), (post(), POST), (Lab([("left", "go")]), "machine left go\n"),
                (Lab([], [("road", "abcdefgh"), ("back", "")]), "row road abcdefgh\nrow back -\n"),
                (Lab([("a", "b")], [], [("a", "c", ("idle",), "b")]), "machine a b\nmove a c idle b\n")):
            self.assertEqual(lab_text(lab), text)
            self.assertEqual(lab_text(lab=lab), str(lab))
            self.assertEqual(read_lab(text), lab)
            self.assertEqual(read_lab(text=text).__class__, Lab)

    def test_all_are_read_as_written(self):
        for seed in range(300):
            lab = any_lab(seed, moves=seed % 20, most=3)
            self.assertEqual(lab_text(lab), text_as_told(lab))
            self.assertEqual(read_lab(lab_text(lab)), lab)

    def test_a_lab_at_its_bounds(self):
        lab = Lab([("one", "a"), ("two", "a"), ("three", "a")], [("x", "a" * 8), ("y", ""), ("z", "b")],
                  [("one", "abcdef"[at % 6], ("send", "x", "c"), "abcdef"[at % 5]) for at in range(24)])
        self.assertEqual(read_lab(lab_text(lab)), lab)


class TestRefusals(unittest.TestCase):
    def bad(self, at, text):
        """That the text is refused with the number."""
        with self.assertRaises(BadText) as caught:
            read_lab(text)
        self.assertEqual((caught.exception.at, caught.exception.word), (at, "badtext"), text)

    def test_lines_that_are_not_so_written(self):
        for line in (
                "", " ", "-", "lab a", "machine", "machine new", "machine new go on", "machine new  go",
                " machine new go", "machine new go ", "Machine new go", "machine new Go", "machine New go",
                "machine new -", "machine - go", "machine newnewnew go", "machine new gogogogog", "machine new ",
                "row", "row new", "row new a b", "row new ", "row new  ", "row new  a", " row new a", "row new a ",
                "row new A", "row new abcdefghi", "row new --", "row new a-", "row New a", "row - a", "row road a",
                "row newnewnew a", "rows new a", "machine left go", "machine new\tgo"):
            at = 2 if line.startswith("machine") else 4
            lines = POST.split("\n")
            self.bad(at, "\n".join(lines[:at] + [line] + lines[at:]))
            self.bad(at, "\n".join(lines[:at] + [line, ""]))
            self.bad(at, "\n".join(lines[:at] + [line, line, ""]))

    def test_moves_that_are_not_so_written(self):
        for line in (
                "", "move", "move left go idle", "move left go idle go on", "move left go  idle go",
                " move left go idle go", "move left go idle go ", "move up go idle go",
                "move Left go idle go", "move left Go idle go",
                "move left go idle -", "move left - idle go", "move left go idle ", "move left go . go",
                "move left go  go", "move left go idle. go", "move left go .idle go", "move left go skip go",
                "move left go send go", "move left go send.road go", "move left go send.road. go",
                "move left go send.road.ab go", "move left go send.road.a.b go", "move left go send.up.a go",
                "move left go send..a go", "move left go send.road.A go", "move left go Send.road.a go",
                "move left go send,road,a go", "move left go send(road,a) go", "move left go send road a go",
                "move left go take.road go", "move left go take.up.a go", "move left go take.road.- go",
                "move left go bare go", "move left go bare. go", "move left go bare.road.a go",
                "move left go bare.up go", "move left go idle.road go",
                "move left gogogogog idle go", "moves left go idle go"):
            lines = POST.split("\n")
            for at in (4, 7, 10):
                self.bad(at, "\n".join(lines[:at] + [line] + lines[at:]))

    def test_lines_behind_one_of_a_later_kind(self):
        self.bad(1, "row road a\nmachine left go\n")
        self.bad(3, "machine left go\nrow road a\nmove left go idle go\nrow back a\n")
        self.bad(2, "machine left go\nmove left go idle go\nmachine right go\n")
        self.bad(2, "machine left go\nrow road a\nmachine right go\nrow road a\n")
        self.assertEqual(len(read_lab("machine left go\nmove left go idle go\n")), 1)

    def test_what_a_lab_of_the_lines_so_far_refuses(self):
        self.bad(0, "move left go idle go\nmachine left go\n")
        self.bad(1, "machine left go\nmachine left stop\n")
        self.bad(1, "row road a\nrow road a\n")
        self.bad(1, "machine left go\nmove left go bare.road go\nrow road a\n")
        self.assertEqual(len(read_lab("machine road go\nrow road a\nmove road go bare.road go\n")), 1)

    def test_one_beyond_the_bounds(self):
        self.bad(3, "".join(f"machine {name} go\n" for name in "abcd"))
        self.bad(3, "".join(f"row {name} a\n" for name in "abcd"))
        self.bad(3, "".join(f"machine {name} go\n" for name in "abcd") + "what\n")
        head = "machine left go\nrow road a\n"
        self.assertEqual(len(read_lab(head + "move left go idle go\n" * 24)), 24)
        self.bad(26, head + "move left go idle go\n" * 25)
        self.bad(26, head + "move left go idle go\n" * 300)
        moves = [f"move left go idle {stand}\n" for stand in "abcdef"]
        self.assertEqual(len(read_lab(head + "".join(moves[:5])).stands("left")), 6)
        self.bad(7, head + "".join(moves))
        self.bad(6, head + "".join(moves[:4]) + "move left x bare.road y\n" + moves[4])

    def test_what_stands_behind_the_last_line_feed(self):
        for text, at in (
                ("machine left go", 0), ("what", 0), (" ", 0), ("machine left go\nrow road a", 1),
                ("machine left go\n ", 1), ("machine left go\nmachine left go", 1), (POST + "x", 10), (POST + " ", 10),
                (POST[:-1], 9)):
            self.bad(at, text)
        # A bad line ahead of it counts first.
        self.bad(0, "what\nmachine left go")
        self.bad(1, "machine left go\nwhat\nrow road a")

    def test_empty_lines(self):
        self.bad(0, "\n")
        self.bad(0, "\nmachine left go\n")
        self.bad(1, "machine left go\n\n")
        self.bad(10, POST + "\n")

    def test_texts_bent_in_one_place(self):
        for at in range(len(POST)):
            for sign in ("", "x", "X", " ", "\n", "-", "."):
                bent = POST[:at] + sign + POST[at + 1:]
                try:
                    lab = read_lab(bent)
                except BadText as error:
                    line = POST[:at].count("\n")
                    self.assertTrue(0 <= error.at <= 10)
                    # Up to the bent line all is well, so none ahead of it is refused.
                    self.assertGreaterEqual(error.at, line)
                else:
                    self.assertEqual(lab_text(lab), bent)


if __name__ == "__main__":
    unittest.main()
