"""Labs: what they have, what they refuse and in which order, and their text."""

import itertools
import unittest

from leakpost.errors import BadAct, BadName, BadWord, Full, LeakError, NoMachine, NoRow, Taken
from leakpost.lab import Lab
from straight import MACHINES, MOVES, ROWS, post

NO_NAMES = ("", "abcdefghi", "Go", "go1", "go ", " go", "g-o", "go\n", "-", "a" * 400)
NO_LETTERS = ("", "ab", "A", "1", " ", "-", "\n")
NO_WORDS = ("A", "a b", "ab\n", "-", "a1", "abcdefghi", "a" * 20000, "abcdefgH")
NO_ACTS = (
    (), ("jump",), ("",), ("Idle",), ("idle ",), ("idle", "road"), ("bare",), ("bare", "road", "a"), ("send",),
    ("send", "road"), ("send", "road", "a", "b"), ("take",), ("take", "road"), ("take", "road", "a", "a"),
    ("skip",), ("leak", "road", "a"), ("road",), ("a", "road", "send"),
)
FORTY = [("m" + one + other, "go") for one in "abcdefgh" for other in "abcde"]


class Refusing(unittest.TestCase):
    def refuses(self, kind, *things, **more):
        with self.assertRaises(LeakError) as caught:
            Lab(*things, **more)
        self.assertIs(caught.exception.__class__, kind)
        self.assertEqual(caught.exception.at, -1)


class TestWhatALabHas(unittest.TestCase):
    def test_all_is_told_in_order(self):
        lab = post()
        self.assertEqual(lab.machines(), MACHINES)
        self.assertEqual(lab.rows(), ROWS)
        self.assertEqual(lab.moves(), MOVES)
        self.assertEqual(lab.begin(), (("go", "stop"), ("ab", "")))

    def test_a_lab_with_nothing(self):
        for lab in (Lab(), Lab([], [], []), Lab((), (), ()), Lab(moves=[])):
            self.assertEqual((lab.machines(), lab.rows(), lab.moves()), ([], [], []))
            self.assertEqual(lab.begin(), ((), ()))
            self.assertEqual(len(lab), 0)
            self.assertEqual(repr(lab), "Lab(0 machines, 0 rows, 0 moves)")
            self.assertEqual(str(lab), "")

    def test_labs_that_lack_something(self):
        self.assertEqual(Lab([("m", "a")]).begin(), (("a",), ()))
        self.assertEqual(Lab(rows=[("r", "ab")]).begin(), ((), ("ab",)))
        self.assertEqual(Lab([("m", "a")], [("r", "")]).moves(), [])
        self.assertEqual(Lab([("m", "a")], moves=[("m", "b", ("idle",), "a")]).stands("m"), ["a", "b"])

    def test_tuples_lists_and_names(self):
        lab = Lab(tuple(MACHINES), tuple(ROWS), tuple(MOVES))
        self.assertEqual(lab, post())
        self.assertEqual(lab, Lab(moves=MOVES, rows=ROWS, machines=MACHINES))
        for told in (lab.machines(), lab.rows(), lab.moves(), lab.stands("left")):
            self.assertIsInstance(told, list)

    def test_a_machine_and_a_row_of_one_name(self):
        lab = Lab([("a", "a")], [("a", "a")], [("a", "a", ("take", "a", "a"), "a")])
        self.assertEqual(lab.begin(), (("a",), ("a",)))

    def test_like_moves_are_both_kept(self):
        move = ("m", "a", ("idle",), "a")
        self.assertEqual(Lab([("m", "a")], [], [move, move]).moves(), [move, move])

    def test_stands(self):
        lab = post()
        self.assertEqual(lab.stands("left"), ["go", "wait"])
        self.assertEqual(lab.stands(machine="right"), ["end", "run", "stop"])
        self.assertEqual(Lab([("m", "z")], [], [("m", "b", ("idle",), "c")]).stands("m"), ["b", "c", "z"])
        self.assertEqual(Lab([("m", "z")]).stands("m"), ["z"])
        for name in ("road", "", "lef", "LEFT", "left "):
            with self.assertRaises(NoMachine) as caught:
                lab.stands(name)
            self.assertEqual(caught.exception.at, -1)
        with self.assertRaises(NoMachine):
            Lab().stands("m")

    def test_len_and_repr(self):
        lab = post()
        self.assertEqual(len(lab), 6)
        self.assertEqual(repr(lab), "Lab(2 machines, 2 rows, 6 moves)")
        self.assertEqual(repr(Lab([("m", "a")], [("r", "")])), "Lab(1 machines, 1 rows, 0 moves)")


class TestHas(unittest.TestCase):
    def test_its_scenes(self):
        lab = post()
        self.assertIs(lab.has(lab.begin()), True)
        for left, right in itertools.product(("go", "wait"), ("stop", "run", "end")):
            for words in (("", ""), ("ab", "b"), ("z" * 60, "q" * 400)):
                self.assertIs(lab.has(((left, right), words)), True)
        self.assertIs(lab.has(scene=lab.begin()), True)

    def test_other_counts(self):
        lab = post()
        for stands in ((), ("go",), ("go", "stop", "go"), ("go", "stop", "end")):
            self.assertIs(lab.has((stands, ("", ""))), False)
        for words in ((), ("",), ("", "", "")):
            self.assertIs(lab.has((("go", "stop"), words)), False)
        self.assertIs(lab.has(((), ())), False)

    def test_stands_of_no_such_machine(self):
        lab = post()
        for stands in (("stop", "go"), ("go", "go"), ("go", "wait"), ("run", "run"), ("", "stop"), ("Go", "stop")):
            self.assertIs(lab.has((stands, ("", ""))), False)

    def test_what_is_no_word(self):
        lab = post()
        for text in ("A", "a b", "-", "a\n", "1"):
            self.assertIs(lab.has((("go", "stop"), (text, ""))), False)
            self.assertIs(lab.has((("go", "stop"), ("", text))), False)

    def test_labs_that_lack_something(self):
        self.assertIs(Lab().has(((), ())), True)
        self.assertIs(Lab().has((("a",), ())), False)
        self.assertIs(Lab().has(((), ("",))), False)
        self.assertIs(Lab(rows=[("r", "a")]).has(((), ("bbb",))), True)
        self.assertIs(Lab([("m", "a")]).has((("a",), ())), True)


class TestEqual(unittest.TestCase):
    def test_labs_that_are_equal(self):
        self.assertTrue(post() == post())
        self.assertFalse(post() != post())
        self.assertTrue(Lab() == Lab())

    def test_each_of_the_three_counts_and_its_order(self):
        base = post()
        others = [
            Lab(), Lab(MACHINES, ROWS, MOVES[:-1]), Lab(MACHINES, ROWS, MOVES[::-1]), Lab(MACHINES[::-1], ROWS, MOVES),
            Lab(MACHINES, ROWS[::-1], MOVES), Lab([("left", "wait"), MACHINES[1]], ROWS, MOVES),
            Lab(MACHINES, [("road", "a"), ROWS[1]], MOVES), Lab(MACHINES, ROWS, MOVES + MOVES[:1]),
            Lab(MACHINES, ROWS + [("more", "")], MOVES), Lab(MACHINES + [("more", "a")], ROWS, MOVES),
        ]
        for other in others:
            self.assertFalse(base == other)
            self.assertTrue(base != other)
            self.assertFalse(other == base)

    def test_nothing_else_is_equal(self):
        for thing in (None, 0, 6, "", str(post()), repr(post()), (MACHINES, ROWS, MOVES), [], (), object()):
            self.assertFalse(post() == thing)
            self.assertTrue(post() != thing)
        self.assertFalse(Lab() == ())
        self.assertFalse(Lab() == "")


class TestText(unittest.TestCase):
    def test_a_line_for_each_thing(self):
        self.assertEqual(str(post()), (
            "machine left go\n"
            "machine right stop\n"
            "row road ab\n"
            "row back -\n"
            "move left go send.road.a wait\n"
            "move left wait take.back.b go\n"
            "move right stop take.road.a run\n"
            "move right run send.back.b stop\n"
            "move right run bare.road end\n"
            "move left wait idle go\n"))

    def test_labs_that_lack_something(self):
        self.assertEqual(str(Lab([("m", "a")])), "machine m a\n")
        self.assertEqual(str(Lab(rows=[("r", "")])), "row r -\n")
        self.assertEqual(str(Lab(rows=[("r", "abcdefgh"), ("s", "")])), "row r abcdefgh\nrow s -\n")


class TestRefusals(Refusing):
    def test_machines(self):
        for text in NO_NAMES:
            self.refuses(BadName, [(text, "go")])
            self.refuses(BadName, [("left", text)])
            self.refuses(BadName, [("left", "go"), ("right", text)])
        self.refuses(Taken, [("left", "go"), ("left", "stop")])
        self.refuses(Taken, [("left", "go"), ("right", "go"), ("left", "go")])
        for name in ("a", "abcdefgh"):
            self.assertEqual(Lab([(name, name)]).machines(), [(name, name)])

    def test_of_several_machines_the_first_bad_one_counts(self):
        self.refuses(BadName, [("left", "Go"), ("left", "go"), ("left", "go")])
        self.refuses(BadName, [("left", "go"), ("left", "Go")])
        self.refuses(BadName, [("", "go"), ("", "go")])
        self.refuses(Taken, [("left", "go"), ("left", "go"), ("Right", "go")])

    def test_rows(self):
        for text in NO_NAMES:
            self.refuses(BadName, [], [(text, "")])
            self.refuses(BadName, [], [("road", ""), (text, "ab")])
        for text in NO_WORDS:
            self.refuses(BadWord, [], [("road", text)])
            self.refuses(BadWord, rows=[("road", ""), ("back", text)])
        self.refuses(Taken, [], [("road", ""), ("road", "a")])
        for word in ("", "a", "abcdefgh", "zzzzzzzz"):
            self.assertEqual(Lab([], [("road", word)]).rows(), [("road", word)])

    def test_of_several_rows_the_first_bad_one_counts(self):
        self.refuses(BadName, [], [("Road", "A")])
        self.refuses(Taken, [], [("road", ""), ("road", "A")])
        self.refuses(BadWord, [], [("road", "A"), ("road", ""), ("Back", "")])
        self.refuses(Taken, [], [("road", ""), ("road", ""), ("back", "A"), ("Back", "")])
        self.refuses(BadName, [], [("Road", ""), ("back", "A"), ("back", "")])

    def test_moves(self):
        for name in ("up", "", "road", "Left"):
            self.refuses(NoMachine, MACHINES, ROWS, [(name, "go", ("idle",), "go")])
        for text in NO_NAMES:
            self.refuses(BadName, MACHINES, ROWS, [("left", text, ("idle",), "go")])
            self.refuses(BadName, MACHINES, ROWS, [("left", "go", ("idle",), text)])
        for act in NO_ACTS:
            self.refuses(BadAct, MACHINES, ROWS, [("left", "go", act, "go")])
        for name in ("up", "", "left", "Road"):
            for act in (("send", name, "a"), ("take", name, "a"), ("bare", name)):
                self.refuses(NoRow, MACHINES, ROWS, [("left", "go", act, "go")])
        for text in NO_LETTERS:
            for word in ("send", "take"):
                self.refuses(BadWord, MACHINES, ROWS, [("left", "go", (word, "road", text), "go")])

    def test_the_order_within_a_move(self):
        spoiled = [("up", NoMachine), ("Go", BadName), (("jump",), BadAct), ("Go", BadName)]
        for bad in itertools.product((False, True), repeat=4):
            move = [spoiled[at][0] if bad[at] else MOVES[0][at] for at in range(4)]
            due = [kind for kind in (NoMachine, BadName, BadAct)
                   if kind in [spoiled[at][1] for at in range(4) if bad[at]]]
            if due:
                self.refuses(due[0], MACHINES, ROWS, [tuple(move)])
        self.refuses(NoRow, MACHINES, ROWS, [("left", "go", ("send", "up", "A"), "go")])
        self.refuses(BadAct, MACHINES, ROWS, [("left", "go", ("send", "up", "A", "b"), "go")])
        self.refuses(BadName, MACHINES, ROWS, [("left", "go", ("send", "up", "A"), "Go")])
        self.refuses(NoMachine, [], [], [("left", "Go", (), "Go")])

    def test_of_several_moves_the_first_bad_one_counts(self):
        bad = [
            (NoMachine, ("up", "go", ("idle",), "go")), (BadName, ("left", "go", ("idle",), "Go")),
            (BadAct, ("left", "go", ("jump",), "go")), (NoRow, ("left", "go", ("bare", "up"), "go")),
            (BadWord, ("left", "go", ("send", "road", "ab"), "go")),
        ]
        for (kind, move), (later, other) in itertools.permutations(bad, 2):
            self.refuses(kind, MACHINES, ROWS, [MOVES[0], move, other])

    def test_machines_go_ahead_of_rows_and_rows_ahead_of_moves(self):
        machines = [(BadName, [("left", "Go")]), (Taken, [("left", "go"), ("left", "go")])]
        rows = [(BadName, [("Road", "")]), (Taken, [("road", ""), ("road", "")]), (BadWord, [("road", "A")])]
        moves = [("up", "Go", (), "Go")]
        for kind, bad_machines in machines:
            for later, bad_rows in rows:
                self.refuses(kind, bad_machines, bad_rows, moves)
                self.refuses(later, MACHINES, bad_rows, moves)
        self.refuses(NoMachine, MACHINES, ROWS, moves)


class TestFull(Refusing):
    def test_machines(self):
        three = [("a", "x"), ("b", "x"), ("c", "x")]
        self.assertEqual(len(Lab(three).machines()), 3)
        self.refuses(Full, three + [("d", "x")])
        self.refuses(Full, FORTY)

    def test_rows(self):
        three = [("a", ""), ("b", ""), ("c", "")]
        self.assertEqual(len(Lab([], three).rows()), 3)
        self.refuses(Full, [], three + [("d", "")])

    def test_moves(self):
        move = ("m", "a", ("idle",), "a")
        self.assertEqual(len(Lab([("m", "a")], [], [move] * 24)), 24)
        self.refuses(Full, [("m", "a")], [], [move] * 25)
        self.refuses(Full, [("m", "a")], [], [move] * 400)

    def test_stands(self):
        ring = [("m", one, ("idle",), other) for one, other in zip("abcdef", "bcdefa")]
        self.assertEqual(Lab([("m", "a")], [], ring).stands("m"), list("abcdef"))
        self.refuses(Full, [("m", "g")], [], ring)
        self.refuses(Full, [("m", "a")], [], ring + [("m", "a", ("idle",), "g")])
        self.refuses(Full, [("m", "a")], [], ring + [("m", "g", ("idle",), "a")])
        self.refuses(Full, [("k", "a"), ("m", "g")], [], ring)
        both = Lab([("m", "a"), ("k", "u")], [], ring + [("k", one, ("idle",), "z") for one in "uvwxy"])
        self.assertEqual(both.stands("k"), list("uvwxyz"))

    def test_full_goes_last(self):
        self.refuses(NoMachine, FORTY, [], [("up", "go", ("idle",), "go")])
        self.refuses(BadWord, FORTY, [("road", "A")])
        self.refuses(BadName, FORTY + [("Up", "go")])
        self.refuses(Taken, FORTY + FORTY[:1])
        move = ("m", "a", ("idle",), "a")
        self.refuses(BadAct, [("m", "a")], [], [move] * 30 + [("m", "a", (), "a")])
        seven = [("m", one, ("idle",), "a") for one in "abcdefg"]
        self.refuses(NoRow, [("m", "a")], [], seven + [("m", "a", ("bare", "road"), "a")])


class TestCopies(unittest.TestCase):
    def test_what_is_told_is_the_callers(self):
        lab = post()
        for told in (lab.machines(), lab.rows(), lab.moves(), lab.stands("left")):
            told.clear()
        self.assertEqual(lab, post())
        self.assertEqual(lab.stands("left"), ["go", "wait"])
        self.assertEqual(str(lab), str(post()))
        self.assertIsNot(lab.moves(), lab.moves())

    def test_what_is_handed_in_may_change_behind(self):
        machines, rows, moves = list(MACHINES), list(ROWS), list(MOVES)
        lab = Lab(machines, rows, moves)
        self.assertEqual((machines, rows, moves), (MACHINES, ROWS, MOVES))
        machines.clear()
        rows[0] = ("up", "z")
        moves.append(("left", "x", ("idle",), "y"))
        self.assertEqual(lab, post())
        self.assertEqual(lab.stands("left"), ["go", "wait"])
        self.assertEqual(len(lab), 6)

    def test_pairs_handed_in_as_lists(self):
        pair, act = ["m", "a"], ["take", "r", "a"]
        row, move = ["r", "a"], ["m", "a", act, "a"]
        lab = Lab([pair], [row], [move])
        pair[1], row[1], act[2], move[3] = "b", "b", "b", "b"
        self.assertEqual(lab, Lab([("m", "a")], [("r", "a")], [("m", "a", ("take", "r", "a"), "a")]))


if __name__ == "__main__":
    unittest.main()
