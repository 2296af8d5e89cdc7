"""A bench: its deeds and what they refuse, what is taken back and done again, trials and twins."""

import copy
import random
import unittest

from leakpost.bench import Bench
from leakpost.bodies import is_body, parts
from leakpost.compiled import compiled
from leakpost.errors import (
    BadAct, BadBody, BadDeed, BadName, BadWish, BadWord, Full, LeakError, NoDeed, NoLab, NoMachine, NoMove, NoRow,
    NoWish, Taken)
from leakpost.lab import Lab
from leakpost.wishes import grants
from straight import MACHINES, MOVES, ROWS, any_body, post

POST_DEEDS = ([("lab", "post")] + [("machine", "post") + pair for pair in MACHINES]
              + [("row", "post") + pair for pair in ROWS] + [("move", "post") + move for move in MOVES])
WISH = ((("right", "end"),), (("road", "a"),))
SIZES = {"lab": 1, "drop": 1, "machine": 3, "row": 3, "move": 5, "strike": 2, "load": 3, "wish": 4, "unwish": 1,
         "many": 1}
NO_NAMES = ("", "A", "a b", "-", "aaaaaaaaa", "a1", "a\n")


def with_post():
    """A bench with the lab of most tests under the name post."""
    bench = Bench()
    for deed in POST_DEEDS:
        bench.do(deed)
    return bench


def with_wish():
    """The same with the wish for it under the name end."""
    bench = with_post()
    bench.wish("end", "post", *WISH)
    return bench


def all_of(bench):
    """All that can be seen of a bench, but for papers."""
    return ([(name, bench.lab_of(name).machines(), bench.lab_of(name).rows(), bench.lab_of(name).moves())
             for name in bench.labs()], [(name, bench.wish_of(name)) for name in bench.wishes()],
            bench.deeds(), bench.undone())


class Straight:
    """A bench as the document tells it, without papers: each deed changes it, what was is kept as a copy."""

    def __init__(self):
        self.labs, self.wishes, self.done, self.back = [], [], [], []

    def lab_at(self, name):
        if name not in [one[0] for one in self.labs]:
            raise NoLab()
        return [one[0] for one in self.labs].index(name)

    def put(self, at, *, machines=(), rows=(), moves=()):
        name, lab = self.labs[at]
        self.labs[at] = (name, Lab(lab.machines() + list(machines), lab.rows() + list(rows),
                                   lab.moves() + list(moves)))

    def act(self, word, *things):
        if SIZES.get(word) != len(things):
            raise BadDeed()
        if word == "lab":
            self.new(things[0], self.labs)
            if len(self.labs) == 6:
                raise Full()
            self.labs.append((things[0], Lab()))
        elif word == "drop":
            del self.labs[self.lab_at(things[0])]
            self.wishes = [one for one in self.wishes if one[1][0] != things[0]]
        elif word == "machine":
            self.put(self.lab_at(things[0]), machines=[things[1:]])
        elif word == "row":
            self.put(self.lab_at(things[0]), rows=[things[1:]])
        elif word == "move":
            self.put(self.lab_at(things[0]), moves=[things[1:]])
        elif word == "strike":
            name, lab = self.labs[self.lab_at(things[0])]
            if things[1] not in range(len(lab)):
                raise NoMove()
            moves = [move for at, move in enumerate(lab.moves()) if at != things[1]]
            self.labs[self.lab_at(name)] = (name, Lab(lab.machines(), lab.rows(), moves))
        elif word == "load":
            self.load(*things)
        elif word == "wish":
            self.new(things[0], self.wishes)
            lab = self.labs[self.lab_at(things[1])][1]
            grants(lab, things[2:], lab.begin())
            if len(self.wishes) == 12:
                raise Full()
            self.wishes.append((things[0], (things[1], things[2:])))
        elif word == "unwish":
            if things[0] not in [one[0] for one in self.wishes]:
                raise NoWish()
            self.wishes = [one for one in self.wishes if one[0] != things[0]]
        elif word == "many":
            if "many" in [deed[0] for deed in things[0]]:
                raise BadDeed()
            for deed in things[0]:
                self.act(*deed)

    def new(self, name, held):
        if not (1 <= len(name) <= 8 and set(name) <= set("abcdefghijklmnopqrstuvwxyz")):
            raise BadName()
        if name in [one[0] for one in held]:
            raise Taken()

    def load(self, name, machine, body):
        lab = self.labs[self.lab_at(name)][1]
        if machine not in [pair[0] for pair in lab.machines()]:
            raise NoMachine()
        if not is_body(body):
            raise BadBody()
        for part in parts(body):
            if part[0] in ("send", "take", "bare") and part[1] not in [pair[0] for pair in lab.rows()]:
                raise NoRow()
        first, moves, last = compiled(machine, body)
        machines = [(one, first if one == machine else stand) for one, stand in lab.machines()]
        others = [move for move in lab.moves() if move[0] != machine]
        self.labs[self.lab_at(name)] = (name, Lab(machines, lab.rows(), others + moves))

    def do(self, deed):
        was = copy.copy(self.labs), copy.copy(self.wishes)
        try:
            self.act(*deed)
        except LeakError:
            self.labs, self.wishes = was
            raise
        self.done.append((deed, was))
        self.back = []

    def undo(self):
        if not self.done:
            raise NoDeed()
        deed, was = self.done.pop()
        self.back.append((deed, (self.labs, self.wishes)))
        self.labs, self.wishes = was
        return deed

    def redo(self):
        if not self.back:
            raise NoDeed()
        deed, then = self.back.pop()
        self.done.append((deed, (self.labs, self.wishes)))
        self.labs, self.wishes = then
        return deed

    def seen(self):
        """All that can be seen."""
        return ([(name, lab.machines(), lab.rows(), lab.moves()) for name, lab in self.labs], list(self.wishes),
                [deed for deed, was in self.done], [deed for deed, then in self.back[::-1]])


class Benches(unittest.TestCase):
    def refuses(self, bench, error, *deed, at=-1):
        """That the deed is refused, by its method, by do, in a many and in a trial, and changes nothing."""
        was = all_of(bench)
        method = getattr(bench, deed[0])
        for ask, things in ((method, deed[1:]), (bench.do, [deed]), (bench.many, [[deed]]),
                            (bench.many, [(("lab", "fresh"), ("drop", "fresh"), deed)]),
                            (bench.trial, [[("many", ()), deed]]), (bench.do, [("many", (deed, deed))])):
            # Where all names are taken no fresh lab can be made ahead of the deed.
            if ask != bench.many or len(bench) < 6 or len(things[0]) == 1:
                with self.assertRaises(error) as caught:
                    ask(*things)
                self.assertIs(caught.exception.__class__, error)
                self.assertEqual((caught.exception.at, caught.exception.word), (at, error.__name__.lower()))
                self.assertEqual(all_of(bench), was)


class TestEachDeed(Benches):
    def test_a_new_bench(self):
        bench = Bench()
        self.assertEqual((bench.labs(), bench.wishes(), bench.deeds(), bench.undone()), ([], [], [], []))
        self.assertEqual((len(bench), repr(bench), bench.found()), (0, "Bench(0 labs, 0 wishes)", 0))
        for ask in (bench.undo, bench.redo):
            with self.assertRaises(NoDeed) as caught:
                ask()
            self.assertEqual(caught.exception.at, -1)

    def test_lab(self):
        bench = Bench()
        self.assertIsNone(bench.lab("b"))
        self.assertIsNone(bench.lab(name="a"))
        self.assertEqual((bench.labs(), len(bench), repr(bench)), (["b", "a"], 2, "Bench(2 labs, 0 wishes)"))
        self.assertEqual(bench.lab_of("a"), Lab())
        self.assertEqual(bench.lab_of(name="a").__class__, Lab)
        for name in NO_NAMES:
            self.refuses(bench, BadName, "lab", name)
        self.refuses(bench, Taken, "lab", "a")
        for name in ("c", "d", "e", "aaaaaaaa"):
            bench.lab(name)
        self.assertEqual(bench.labs(), ["b", "a", "c", "d", "e", "aaaaaaaa"])
        self.refuses(bench, Full, "lab", "f")
        self.refuses(bench, Taken, "lab", "e")
        self.refuses(bench, BadName, "lab", "F")
        bench.drop("a")
        bench.lab("a")
        self.assertEqual(bench.labs(), ["b", "c", "d", "e", "aaaaaaaa", "a"])

    def test_drop(self):
        bench = with_wish()
        bench.lab("other")
        bench.wish("mid", "other", (), ())
        bench.wish("last", "post", (), ())
        self.assertIsNone(bench.drop(name="post"))
        self.assertEqual((bench.labs(), bench.wishes()), (["other"], ["mid"]))
        for name in ("post", "end", "", "Other"):
            self.refuses(bench, NoLab, "drop", name)
            with self.assertRaises(NoLab) as caught:
                bench.lab_of(name)
            self.assertEqual((caught.exception.at, caught.exception.word), (-1, "nolab"))
        bench.lab("post")
        self.assertEqual((bench.lab_of("post"), bench.wishes()), (Lab(), ["mid"]))

    def test_machines_rows_and_moves(self):
        bench = with_post()
        self.assertEqual(bench.lab_of("post"), post())
        bench = Bench()
        bench.lab("a")
        self.assertIsNone(bench.machine(lab="a", name="left", first="go"))
        self.assertIsNone(bench.row(lab="a", name="road", word="ab"))
        self.assertIsNone(bench.move(lab="a", machine="left", start="go", act=("take", "road", "a"), end="end"))
        self.assertEqual(bench.lab_of("a"), Lab(
            [("left", "go")], [("road", "ab")], [("left", "go", ("take", "road", "a"), "end")]))

    def test_what_machine_refuses(self):
        bench = with_post()
        for name, first in (("new", "go"), ("left", "go"), ("New", "")):
            self.refuses(bench, NoLab, "machine", "posts", name, first)
        for name in NO_NAMES:
            self.refuses(bench, BadName, "machine", "post", name, "go")
            self.refuses(bench, BadName, "machine", "post", "new", name)
            self.refuses(bench, BadName, "machine", "post", "left", name)
        self.refuses(bench, Taken, "machine", "post", "left", "go")
        bench.machine("post", "third", "go")
        self.refuses(bench, Full, "machine", "post", "fourth", "go")
        self.refuses(bench, Taken, "machine", "post", "third", "go")
        self.refuses(bench, BadName, "machine", "post", "fourth", "Go")

    def test_what_row_refuses(self):
        bench = with_post()
        for name, word in (("new", ""), ("road", ""), ("New", "A")):
            self.refuses(bench, NoLab, "row", "posts", name, word)
        for name in NO_NAMES:
            self.refuses(bench, BadName, "row", "post", name, "a")
            self.refuses(bench, BadName, "row", "post", name, "A")
        self.refuses(bench, Taken, "row", "post", "road", "a")
        self.refuses(bench, Taken, "row", "post", "road", "A")
        for word in ("A", "a b", "-", "aaaaaaaaa", "\n"):
            self.refuses(bench, BadWord, "row", "post", "new", word)
        bench.row("post", "left", "aaaaaaaa")
        self.refuses(bench, Full, "row", "post", "fourth", "")
        self.refuses(bench, BadWord, "row", "post", "fourth", "A")

    def test_what_move_refuses(self):
        bench = with_post()
        good = ("left", "go", ("idle",), "go")
        self.refuses(bench, NoLab, "move", "posts", *good)
        self.refuses(bench, NoLab, "move", "posts", "up", "Go", (), "")
        self.refuses(bench, NoMachine, "move", "post", "up", "Go", (), "")
        self.refuses(bench, NoMachine, "move", "post", "", "go", ("idle",), "go")
        for name in NO_NAMES:
            self.refuses(bench, BadName, "move", "post", "left", name, (), "go")
            self.refuses(bench, BadName, "move", "post", "left", "go", ("send", "up", ""), name)
        for act in ((), ("go",), ("idle", "road"), ("send",), ("send", "up"), ("send", "up", "A", "b"), ("bare",),
                    ("bare", "road", "a"), ("take", "road"), ("",), ("skip",)):
            self.refuses(bench, BadAct, "move", "post", "left", "go", act, "go")
        for act in (("send", "up", "A"), ("take", "left", "a"), ("bare", ""), ("bare", "Road")):
            self.refuses(bench, NoRow, "move", "post", "left", "go", act, "go")
        for act in (("send", "road", "A"), ("take", "road", "ab"), ("send", "back", "")):
            self.refuses(bench, BadWord, "move", "post", "left", "go", act, "go")

    def test_moves_at_their_bounds(self):
        bench = with_post()
        for each in range(18):
            bench.move("post", "left", "go", ("idle",), "go")
        self.assertEqual(len(bench.lab_of("post")), 24)
        self.refuses(bench, Full, "move", "post", "left", "go", ("idle",), "go")
        self.refuses(bench, BadAct, "move", "post", "left", "go", (), "go")
        bench = with_post()
        for stand in "abcd":
            bench.move("post", "left", "go", ("idle",), stand)
        self.assertEqual(len(bench.lab_of("post").stands("left")), 6)
        self.refuses(bench, Full, "move", "post", "left", "go", ("idle",), "e")
        self.refuses(bench, Full, "move", "post", "left", "e", ("idle",), "go")
        bench.move("post", "left", "a", ("idle",), "wait")
        bench.move("post", "right", "e", ("idle",), "f")

    def test_strike(self):
        bench = with_post()
        self.assertIsNone(bench.strike(lab="post", place=1))
        self.assertEqual(bench.lab_of("post"), Lab(MACHINES, ROWS, MOVES[:1] + MOVES[2:]))
        bench.strike("post", 4)
        bench.strike("post", 0)
        self.assertEqual(bench.lab_of("post").moves(), MOVES[2:5])
        for place in (3, -1, -3, 24, 400, 10 ** 29, -10 ** 29):
            self.refuses(bench, NoMove, "strike", "post", place)
            self.refuses(bench, NoLab, "strike", "posts", place)
        self.refuses(bench, NoLab, "strike", "posts", 0)
        bench.lab("none")
        self.refuses(bench, NoMove, "strike", "none", 0)

    def test_wish(self):
        bench = with_post()
        self.assertIsNone(bench.wish("b", "post", *WISH))
        self.assertIsNone(bench.wish(words=(), stands=(("left", "far"),), lab="post", name="a"))
        bench.wish("post", "post", (), ())
        self.assertEqual((bench.wishes(), repr(bench)), (["b", "a", "post"], "Bench(1 labs, 3 wishes)"))
        self.assertEqual(bench.wish_of("b"), ("post", WISH))
        self.assertEqual(bench.wish_of(name="a"), ("post", ((("left", "far"),), ())))
        swapped = ((("right", "end"), ("left", "go")), (("back", "b"), ("road", "a")))
        bench.wish("c", "post", *swapped)
        self.assertEqual(bench.wish_of("c"), ("post", swapped))

    def test_what_wish_refuses(self):
        bench = with_wish()
        for name in NO_NAMES:
            self.refuses(bench, BadName, "wish", name, "posts", (("up", ""),), ())
            self.refuses(bench, BadName, "wish", name, "post", (), ())
        self.refuses(bench, Taken, "wish", "end", "posts", (("up", ""),), ())
        self.refuses(bench, Taken, "wish", "end", "post", (), ())
        self.refuses(bench, NoLab, "wish", "new", "posts", (("up", ""),), ())
        self.refuses(bench, NoLab, "wish", "new", "end", (), ())
        bad = (((("up", "go"),), ()), ((("left", "go"), ("left", "go")), ()), ((), (("up", ""),)),
               ((), (("road", ""), ("road", ""))), ((("left", "Go"),), ()), ((), (("road", "A"),)),
               ((), (("road", "aaaaaaaaa"),)), ((("road", "go"),), ()))
        for stands, words in bad:
            self.refuses(bench, BadWish, "wish", "new", "post", stands, words)
        for name in "abcdefghijk":
            bench.wish(name, "post", (), ())
        self.assertEqual(len(bench.wishes()), 12)
        for stands, words in bad:
            self.refuses(bench, BadWish, "wish", "new", "post", stands, words)
        self.refuses(bench, Full, "wish", "new", "post", *WISH)
        self.refuses(bench, NoLab, "wish", "new", "posts", *WISH)
        self.refuses(bench, Taken, "wish", "k", "post", *WISH)
        bench.unwish("end")
        bench.wish("end", "post", (), ())
        self.assertEqual(bench.wishes(), list("abcdefghijk") + ["end"])

    def test_unwish(self):
        bench = with_wish()
        bench.wish("new", "post", (), ())
        self.assertIsNone(bench.unwish(name="end"))
        self.assertEqual(bench.wishes(), ["new"])
        for name in ("end", "post", "", "New"):
            self.refuses(bench, NoWish, "unwish", name)
            for ask in (bench.wish_of, bench.ask):
                with self.assertRaises(NoWish) as caught:
                    ask(name)
                self.assertEqual((caught.exception.at, caught.exception.word), (-1, "nowish"))


class TestLoad(Benches):
    def loaded(self, body, machine="left"):
        """The lab of most tests with the body loaded."""
        bench = with_post()
        self.assertIsNone(bench.load("post", machine, body))
        return bench.lab_of("post")

    def test_the_moves_of_the_machine_are_made_new(self):
        for body in (("skip",), ("send", "road", "c"), ("then", ("take", "back", "a"), ("bare", "road")),
                     ("again", ("or", ("send", "road", "c"), ("skip",)))):
            first, moves, last = compiled("left", body)
            self.assertEqual(self.loaded(body), Lab(
                [("left", first), MACHINES[1]], ROWS, [move for move in MOVES if move[0] == "right"] + moves))
            first, moves, last = compiled("right", body, stem="s")
            self.assertEqual(self.loaded(body, "right"), Lab(
                [MACHINES[0], ("right", first)], ROWS, [move for move in MOVES if move[0] == "left"] + moves))

    def test_loaded_twice(self):
        bench = with_post()
        bench.load("post", "left", ("again", ("send", "road", "c")))
        bench.load(body=("skip",), machine="left", lab="post")
        self.assertEqual(bench.lab_of("post"), self.loaded(("skip",)))
        bench.undo()
        self.assertEqual(bench.lab_of("post"), self.loaded(("again", ("send", "road", "c"))))
        bench.undo()
        self.assertEqual(bench.lab_of("post"), post())

    def test_a_wish_for_a_stand_that_is_gone_is_in_vain(self):
        bench = with_wish()
        self.assertEqual(bench.ask("end")[0], "comes")
        bench.load("post", "right", ("skip",))
        self.assertEqual(bench.wish_of("end"), ("post", WISH))
        self.assertEqual(bench.ask("end"), ("never", []))

    def test_what_load_refuses(self):
        bench = with_post()
        self.refuses(bench, NoLab, "load", "posts", "up", ())
        self.refuses(bench, NoLab, "load", "posts", "left", ("skip",))
        self.refuses(bench, NoMachine, "load", "post", "up", ())
        self.refuses(bench, NoMachine, "load", "post", "", ("bare", "up"))
        deep = ("skip",)
        for each in range(6):
            deep = ("again", deep)
        for body in ((), ("idle",), ("then", ("skip",)), ("again", "skip"), ("bare", "Road"), deep,
                     ("then", ("bare", "up"), ("bare",)), ("send", "up", "ab"), ("bare", ("road",))):
            self.refuses(bench, BadBody, "load", "post", "left", body)
        for body in (("bare", "up"), ("send", "left", "a"), ("then", ("bare", "road"), ("take", "up", "a")),
                     ("or", ("bare", "up"), ("bare", "road")), ("again", ("again", ("bare", "up")))):
            self.refuses(bench, NoRow, "load", "post", "left", body)

    def test_bodies_that_do_not_fit(self):
        def chain(many):
            return ("send", "road", "a") if many == 1 else ("then", ("send", "road", "a"), chain(many - 1))
        bench = with_post()
        for many in range(1, 6):
            first, moves, last = compiled("left", chain(many))
            stands = {stand for move in moves for stand in (move[1], move[3])}
            self.assertEqual(len(stands), many + 1)
            bench.load("post", "left", chain(many))
        self.refuses(bench, Full, "load", "post", "left", chain(6))
        self.refuses(bench, NoRow, "load", "post", "left", ("or", chain(5), ("then", ("bare", "road"), ("bare", "up"))))
        # Just as many moves as there is room for, and one more.
        bench = with_post()
        while len(bench.lab_of("post")) < 24:
            bench.move("post", "right", "run", ("idle",), "run")
        for each in range(3):
            bench.strike("post", 20)
        # Of the 21 moves three are the machine's own, and go.
        six = ("or", ("or", ("skip",), ("or", ("skip",), ("skip",))), ("or", ("skip",), ("or", ("skip",), ("skip",))))
        seven = ("or", six, ("skip",))
        self.assertEqual((len(compiled("left", six)[1]), len(compiled("left", seven)[1])), (6, 7))
        self.refuses(bench, Full, "load", "post", "left", seven)
        bench.load("post", "left", six)
        self.assertEqual(len(bench.lab_of("post")), 24)

    def test_many_bodies(self):
        fits = 0
        for seed in range(120):
            body = any_body(seed, rows=("road", "back"), most=9)
            first, moves, last = compiled("left", body)
            stands = {first, last} | {stand for move in moves for stand in (move[1], move[3])}
            if len(stands) > 6:
                self.refuses(with_post(), Full, "load", "post", "left", body)
            else:
                fits += 1
                self.assertEqual(self.loaded(body).moves()[-len(moves):], moves)
        self.assertTrue(30 < fits < 120)


class TestMany(Benches):
    def test_several_deeds_as_one(self):
        bench = Bench()
        bench.lab("x")
        self.assertIsNone(bench.many(POST_DEEDS))
        self.assertEqual(bench.lab_of("post"), post())
        self.assertEqual(bench.deeds(), [("lab", "x"), ("many", tuple(POST_DEEDS))])
        self.assertEqual(bench.undo(), ("many", tuple(POST_DEEDS)))
        self.assertEqual((bench.labs(), bench.deeds()), (["x"], [("lab", "x")]))
        self.assertEqual(bench.redo(), ("many", tuple(POST_DEEDS)))
        self.assertEqual(bench.lab_of("post"), post())
        bench.many(deeds=(("drop", "x"), ("lab", "x")))
        self.assertEqual(bench.labs(), ["post", "x"])

    def test_of_none(self):
        bench = Bench()
        bench.lab("a")
        bench.undo()
        bench.many([])
        self.assertEqual((bench.deeds(), bench.undone(), bench.labs()), ([("many", ())], [], []))
        bench.many(())
        self.assertEqual(bench.undo(), ("many", ()))
        self.assertEqual((bench.deeds(), bench.undone()), ([("many", ())], [("many", ())]))

    def test_refused_in_the_middle(self):
        bench = with_wish()
        was = all_of(bench)
        for deeds, error in (
                ([("lab", "a"), ("lab", "a"), ("lab", "B")], Taken), ([("drop", "post"), ("unwish", "end")], NoWish),
                ([("strike", "post", 0), ("strike", "post", 5)], NoMove), ([("lab", "a"), ("what",)], BadDeed),
                ([("lab", "A"), ("what",)], BadName), ([("lab", "a"), ("lab",), ("lab", "A")], BadDeed),
                ([("lab", "a"), ()], BadDeed), ([("drop", "post"), ("wish", "new", "post", (), ())], NoLab),
                ([("row", "post", "new", ""), ("load", "post", "left", ("bare", "new")), ("undo",)], BadDeed)):
            for each in (deeds, tuple(deeds)):
                with self.assertRaises(error) as caught:
                    bench.many(each)
                self.assertIs(caught.exception.__class__, error)
                self.assertEqual(all_of(bench), was)

    def test_a_many_within_is_refused_ahead_of_all(self):
        bench = with_post()
        was = all_of(bench)
        for deeds in (
                [("many", ())], [("many", (("lab", "a"),))], [("lab", "a"), ("many", ())],
                [("lab", "A"), ("many", ())], [("what",), ("lab", "post"), ("many", (("many", ()),))], [("many",)]):
            for ask, thing in ((bench.many, deeds), (bench.do, ("many", tuple(deeds)))):
                with self.assertRaises(BadDeed) as caught:
                    ask(thing)
                self.assertEqual((caught.exception.at, caught.exception.word), (-1, "baddeed"))
                self.assertEqual(all_of(bench), was)


class TestDo(Benches):
    def test_each_deed(self):
        by_do, by_method = Bench(), Bench()
        for deed in POST_DEEDS + [
                ("wish", "a", "post", *WISH), ("wish", "b", "post", (), ()), ("strike", "post", 2), ("lab", "x"),
                ("load", "post", "left", ("again", ("bare", "road"))), ("unwish", "a"), ("drop", "x"),
                ("many", (("lab", "y"), ("lab", "z"))), ("many", ())]:
            self.assertIsNone(by_do.do(deed))
            getattr(by_method, deed[0])(*deed[1:])
            self.assertEqual(by_do.deeds()[-1], deed)
            self.assertEqual(all_of(by_do), all_of(by_method))
        self.assertIsNone(by_do.do(deed=("lab", "last")))

    def test_what_is_no_deed(self):
        bench = with_wish()
        bench.undo()
        was = all_of(bench)
        for deed in (
                (), ("",), ("what",), ("undo",), ("redo",), ("trial", ()), ("twin",), ("do", ("lab", "a")), ("labs",),
                ("ask", "end"), ("Lab", "a"), ("lab",), ("lab", "a", "b"), ("drop",), ("drop", "post", "post"),
                ("machine", "post", "new"), ("machine", "post", "new", "go", "on"), ("row", "post", "new"),
                ("row", "post", "new", "a", "b"), ("move", "post", "left", "go", ("idle",)),
                ("move", "post", "left", "go", ("idle",), "go", "on"), ("strike", "post"), ("strike", "post", 0, 1),
                ("load", "post", "left"), ("load", "post", "left", ("skip",), "s"), ("wish", "a", "post", ()),
                ("wish", "a", "post", (), (), ()), ("wish", "a", "post"), ("unwish",), ("unwish", "end", "end"),
                ("many",), ("many", (), ()), ("all:",)):
            for ask, thing in ((bench.do, deed), (bench.trial, [deed]), (bench.many, [deed])):
                with self.assertRaises(BadDeed) as caught:
                    ask(thing)
                self.assertEqual((caught.exception.at, caught.exception.word), (-1, "baddeed"))
                self.assertEqual(all_of(bench), was)


class TestBackAndAgain(Benches):
    def test_behind_each_kind_of_deed(self):
        bench = Bench()
        deeds = POST_DEEDS + [
            ("wish", "a", "post", *WISH), ("lab", "x"), ("wish", "b", "x", (), ()), ("wish", "c", "post", (), ()),
            ("strike", "post", 2), ("load", "post", "right", ("bare", "road")), ("unwish", "a"), ("drop", "x"),
            ("many", (("lab", "y"), ("drop", "post"), ("lab", "post"))), ("many", ()), ("lab", "x")]
        seen = [all_of(bench)[:2]]
        for deed in deeds:
            bench.do(deed)
            seen.append(all_of(bench)[:2])
        for at in range(len(deeds) - 1, -1, -1):
            self.assertEqual(bench.undo(), deeds[at])
            self.assertEqual(all_of(bench), seen[at] + (deeds[:at], deeds[at:]))
        with self.assertRaises(NoDeed):
            bench.undo()
        for at, deed in enumerate(deeds):
            self.assertEqual(bench.redo(), deed)
            self.assertEqual(all_of(bench), seen[at + 1] + (deeds[:at + 1], deeds[at + 1:]))
        with self.assertRaises(NoDeed) as caught:
            bench.redo()
        self.assertEqual((caught.exception.at, caught.exception.word), (-1, "nodeed"))

    def test_a_new_deed_lets_go_of_what_was_taken_back(self):
        for deed in (("lab", "new"), ("many", ()), ("lab", "b")):
            bench = Bench()
            bench.lab("a")
            bench.lab("b")
            bench.undo()
            bench.do(deed)
            self.assertEqual((bench.deeds(), bench.undone()), ([("lab", "a"), deed], []))
            with self.assertRaises(NoDeed):
                bench.redo()

    def test_what_is_refused_does_not(self):
        bench = Bench()
        bench.lab("a")
        bench.lab("b")
        bench.undo()
        for deed in (("lab", "a"), ("what",), ("many", (("lab", "c"), ("lab", "c"))), ("many", (("many", ()),))):
            with self.assertRaises(LeakError):
                bench.do(deed)
            self.assertEqual(bench.undone(), [("lab", "b")])
        self.assertEqual(bench.redo(), ("lab", "b"))
        with self.assertRaises(NoDeed):
            bench.redo()
        self.assertEqual(bench.labs(), ["a", "b"])

    def test_the_order_of_names_comes_back(self):
        bench = Bench()
        for name in "abc":
            bench.lab(name)
            bench.wish(name, name, (), ())
        bench.drop("b")
        bench.undo()
        self.assertEqual((bench.labs(), bench.wishes()), (list("abc"), list("abc")))
        bench.unwish("a")
        bench.undo()
        self.assertEqual(bench.wishes(), list("abc"))


class TestTrial(Benches):
    def test_all_is_as_it_was(self):
        bench = with_wish()
        bench.undo()
        bench.undo()
        was = all_of(bench)
        for deeds in ([], (), [("drop", "post")] + POST_DEEDS, [("many", (("lab", "a"),)), ("drop", "a")],
                      (("many", ()), ("lab", "b"), ("strike", "post", 0))):
            self.assertIsNone(bench.trial(deeds))
            self.assertEqual(all_of(bench), was)
        self.assertIsNone(bench.trial(deeds=[("lab", "a")]))
        self.assertEqual(bench.redo(), POST_DEEDS[-1])

    def test_refused_as_the_first_that_is(self):
        bench = with_wish()
        bench.undo()
        was = all_of(bench)
        for deeds, error in (
                ([("lab", "a"), ("lab", "a"), ("lab", "B")], Taken), ([("drop", "post"), ("strike", "post", 9)], NoLab),
                ([("lab", "a"), ("what",), ("lab", "B")], BadDeed),
                ([("lab", "B"), ("many", (("many", ()),))], BadName),
                ([("lab", "a"), ("many", (("lab", "b"), ("lab", "a")))], Taken), ([("undo",)], BadDeed),
                ([("lab", name) for name in "abcdef"], Full), ([()], BadDeed)):
            with self.assertRaises(error) as caught:
                bench.trial(deeds)
            self.assertIs(caught.exception.__class__, error)
            self.assertEqual(all_of(bench), was)


class TestTwin(Benches):
    def test_a_twin_has_all_and_goes_its_own_way(self):
        bench = with_wish()
        bench.lab("x")
        bench.undo()
        twin = bench.twin()
        self.assertIs(twin.__class__, Bench)
        self.assertIsNot(twin, bench)
        self.assertEqual((all_of(twin), twin), (all_of(bench), bench))
        was = all_of(bench)
        self.assertEqual(twin.redo(), ("lab", "x"))
        self.assertEqual(all_of(bench), was)
        twin.strike("post", 0)
        twin.unwish("end")
        self.assertEqual(all_of(bench), was)
        after = all_of(twin)
        bench.undo()
        bench.drop("post")
        self.assertEqual(all_of(twin), after)
        while twin.deeds():
            twin.undo()
        self.assertEqual((twin.labs(), bench.labs(), len(bench.deeds())), ([], [], len(POST_DEEDS) + 1))

    def test_a_twin_of_a_twin(self):
        bench = with_post()
        first = bench.twin()
        second = first.twin()
        first.drop("post")
        self.assertEqual((second, first == second), (bench, False))


class TestEqual(Benches):
    def test_benches(self):
        self.assertEqual(Bench(), Bench())
        self.assertEqual(with_wish(), with_wish())
        self.assertFalse(with_wish() != with_wish())
        self.assertNotEqual(with_wish(), with_post())
        self.assertNotEqual(Bench(), with_post())

    def test_how_it_came_about_does_not_count(self):
        one, other = with_wish(), Bench()
        other.many(POST_DEEDS)
        other.lab("x")
        other.undo()
        other.wish("end", "post", *WISH)
        self.assertEqual(one, other)
        other.wish("new", "post", (), ())
        self.assertNotEqual(one, other)
        other.unwish("new")
        self.assertEqual(one, other)

    def test_names_and_order_count(self):
        def made(*names):
            bench = Bench()
            for name in names:
                bench.lab(name)
            return bench
        self.assertNotEqual(made("a", "b"), made("b", "a"))
        self.assertNotEqual(made("a"), made("b"))
        self.assertNotEqual(made("a"), made("a", "b"))
        one, other = made("a", "b"), made("a", "b")
        for bench, names in ((one, "xy"), (other, "yx")):
            for name in names:
                bench.wish(name, "a", (), ())
        self.assertNotEqual(one, other)
        one, other = made("a", "b"), made("a", "b")
        one.wish("x", "a", (), ())
        other.wish("x", "b", (), ())
        self.assertNotEqual(one, other)
        one, other = with_post(), with_post()
        one.wish("x", "post", (("left", "go"), ("right", "end")), ())
        other.wish("x", "post", (("right", "end"), ("left", "go")), ())
        self.assertNotEqual(one, other)

    def test_to_nothing_else(self):
        for other in (None, 0, "", [], {}, ({}, {}), Lab(), "Bench(0 labs, 0 wishes)"):
            self.assertFalse(Bench() == other)
            self.assertTrue(Bench() != other)


class TestCopies(Benches):
    def test_lists_that_are_told(self):
        bench = with_wish()
        bench.lab("x")
        bench.undo()
        was = all_of(bench)
        for told in (bench.labs(), bench.wishes(), bench.deeds(), bench.undone(), bench.lab_of("post").moves()):
            self.assertIs(told.__class__, list)
            told.clear()
            told.append("what")
        self.assertEqual(all_of(bench), was)

    def test_lists_that_are_handed_in(self):
        bench = Bench()
        deeds = [deed for deed in POST_DEEDS]
        bench.many(deeds)
        deeds.clear()
        self.assertEqual(bench.deeds(), [("many", tuple(POST_DEEDS))])
        trial = [("lab", "a")]
        bench.trial(trial)
        self.assertEqual(trial, [("lab", "a")])
        deeds = [("lab", "b"), ("drop", "b")]
        bench.do(("many", deeds))
        self.assertEqual(deeds, [("lab", "b"), ("drop", "b")])
        deeds.append(("what",))
        self.assertEqual(bench.deeds()[-1], ("many", (("lab", "b"), ("drop", "b"))))
        self.assertEqual(bench.undo(), ("many", (("lab", "b"), ("drop", "b"))))

    def test_pairs_and_acts_in_lists(self):
        bench = with_post()
        stands, words, act = [["right", "end"]], [("road", "a")], ["send", "road", "a"]
        bench.wish("end", "post", stands, words)
        bench.move("post", "left", "go", act, "go")
        stands[0].append("what")
        stands.clear()
        words.clear()
        act.clear()
        self.assertEqual(bench.wish_of("end"), ("post", WISH))
        self.assertEqual(bench.deeds()[-2:], [("wish", "end", "post", *WISH), (
            "move", "post", "left", "go", ("send", "road", "a"), "go")])
        self.assertEqual(bench.lab_of("post").moves()[-1], ("left", "go", ("send", "road", "a"), "go"))


class TestAgainstTheStraightOne(Benches):
    def any_deed(self, chance, inner=False):
        """A deed that may be refused or not."""
        lab, name = chance.choice("abcdefg"), chance.choice("abcdefghijklmnop")
        machine, row = chance.choice(("l", "r", "m", "L", "n")), chance.choice(("x", "y", "z", "w", ""))
        stand, end = chance.choice("pqrstuvwxyz"), chance.choice("pqrpqrs")
        letter = chance.choice(("a", "b", "a", "A"))
        act = chance.choice([("send", row, letter), ("take", row, letter), ("bare", row), ("idle",), ("idle", row), ()])
        stands = tuple((chance.choice("lrm"), stand) for each in range(chance.randint(0, 2)))
        words = tuple((chance.choice("xyz"), chance.choice(("", "ab", "B"))) for each in range(chance.randint(0, 2)))
        deeds = [
            ("lab", lab), ("machine", lab, machine, stand), ("machine", lab, machine, "p"),
            ("row", lab, row, chance.choice(("", "ab", "abababab", "ababababa"))),
            ("move", lab, machine, end, act, end), ("move", lab, machine, end, ("idle",), stand),
            ("strike", lab, chance.randint(-1, 3)),
            ("load", lab, machine, any_body(chance.random(), rows=("x", "y", "y"), most=5)),
            ("load", lab, machine, chance.choice([(), ("skip",), ("bare", "x"), ("bare",)])),
            ("wish", name, lab, stands, words), ("wish", name, lab, (), ()), ("wish", name, lab, (), ()), ("what", lab)]
        if chance.random() < 0.02:
            deeds = [("drop", lab), ("unwish", name), ("lab",)]
        if not inner and chance.random() < 0.15:
            many = chance.randint(0, 3)
            return ("many", tuple(self.any_deed(chance, chance.random() < 0.98) for each in range(many)))
        return chance.choice(deeds)

    def test_many_deeds(self):
        refused, labs, wishes = {}, 0, 0
        for seed in range(25):
            chance = random.Random(seed)
            bench, straight = Bench(), Straight()
            for each in range(350):
                word = chance.choice(("do",) * 10 + ("undo", "redo", "trial", "twin"))
                told = []
                deed = self.any_deed(chance)
                for one in (bench, straight):
                    try:
                        if word == "do":
                            told.append(one.do(deed))
                        elif word in ("undo", "redo"):
                            told.append(getattr(one, word)())
                        elif word == "trial":
                            told.append(None)
                            if one == bench:
                                bench.trial([deed, ("many", ())])
                            else:
                                copy.deepcopy(straight).do(deed)
                        elif one == bench:
                            bench = bench.twin()
                    except LeakError as error:
                        told.append((error.__class__, error.at))
                        refused[error.word] = refused.get(error.word, 0) + 1
                self.assertEqual(told[:len(told) // 2], told[len(told) // 2:], deed)
                self.assertEqual(all_of(bench), straight.seen())
                labs, wishes = max(labs, len(bench)), max(wishes, len(bench.wishes()))
        self.assertEqual((labs, wishes), (6, 12))
        self.assertEqual(set(refused), {
            "badname", "badword", "badact", "badwish", "badbody", "baddeed", "taken", "full", "nomachine", "norow",
            "nomove", "nolab", "nowish", "nodeed"})


if __name__ == "__main__":
    unittest.main()
