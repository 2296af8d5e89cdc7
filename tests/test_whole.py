"""What holds of the whole program: its interface, and that what only asks changes nothing."""

import copy
import importlib
import inspect
import unittest

from leakpost import errors
from leakpost.answers import answer, shows
from leakpost.back import Search, turned
from leakpost.bench import Bench
from leakpost.bodies import body_text, is_body, parts, read_body
from leakpost.compiled import compiled
from leakpost.cover import cover, lets, shuts
from leakpost.desk import Desk
from leakpost.ends import ends, shows_goes
from leakpost.lab import Lab
from leakpost.labtext import lab_text, read_lab
from leakpost.moves import best, can, done, leaked, ways
from leakpost.pages import bench_of, deed_of, deed_text, page
from leakpost.pieces import pieces
from leakpost.products import holds, inside, plain, product_of, product_text, read_product, sent, swollen, taken
from leakpost.runs import best_run, count, play
from leakpost.scenes import above, least
from leakpost.wishes import grants, least_of
from leakpost.words import behind, spots, within
from straight import MACHINES, MOVES, ROWS, post

FUNCTIONS = {
    "words": {
        "is_name": "(text)", "is_letter": "(text)", "is_word": "(text)", "within": "(small, great)",
        "spots": "(small, great)", "behind": "(word, letter)"},
    "scenes": {"above": "(one, other)", "least": "(scenes)"},
    "lab": {"Lab": "(machines=(), rows=(), moves=())"},
    "moves": {
        "can": "(lab, scene, place)", "done": "(lab, scene, place)", "best": "(lab, scene, place)",
        "ways": "(lab, scene)", "leaked": "(lab, scene, row, at)"},
    "runs": {
        "play": "(lab, run, *, scene=None)", "count": "(run)", "best_run": "(lab, places, *, scene=None)"},
    "wishes": {"grants": "(lab, wish, scene)", "least_of": "(lab, wishes)"},
    "back": {"turned": "(lab, place, scene)", "Search": "(lab, wishes, *, most=60)"},
    "answers": {"answer": "(lab, wishes, *, most=60, deep=40)", "shows": "(lab, wishes, paper)"},
    "products": {
        "is_product": "(thing)", "holds": "(product, word)", "inside": "(one, other)", "plain": "(product)",
        "sent": "(product, letter)", "taken": "(product, letter)", "swollen": "(product, letters)",
        "product_of": "(word)", "product_text": "(product)", "read_product": "(text)"},
    "cover": {
        "cover": "(lab, *, most=60, deep=40)", "shuts": "(lab, parts)", "lets": "(lab, wishes, parts)"},
    "ends": {"ends": "(lab, *, most=6)", "shows_goes": "(lab, lead, ring)"},
    "pieces": {"pieces": "(lab)"},
    "bodies": {"is_body": "(thing)", "parts": "(body)", "body_text": "(body)", "read_body": "(text)"},
    "compiled": {"compiled": "(machine, body, *, stem='s')"},
    "labtext": {"lab_text": "(lab)", "read_lab": "(text)"},
    "bench": {"Bench": "()"},
    "pages": {"deed_text": "(deed)", "deed_of": "(text)", "page": "(bench)", "bench_of": "(text)"},
    "desk": {"Desk": "(bench)"},
}
METHODS = {
    Lab: {
        "machines": "(self)", "rows": "(self)", "moves": "(self)", "stands": "(self, machine)", "begin": "(self)",
        "has": "(self, scene)"},
    Search: {"more": "(self)", "layer": "(self, at)", "since": "(self, scene)"},
    Bench: {
        "lab": "(self, name)", "drop": "(self, name)", "machine": "(self, lab, name, first)",
        "row": "(self, lab, name, word)", "move": "(self, lab, machine, start, act, end)",
        "strike": "(self, lab, place)", "load": "(self, lab, machine, body)",
        "wish": "(self, name, lab, stands, words)", "unwish": "(self, name)", "many": "(self, deeds)",
        "do": "(self, deed)", "undo": "(self)", "redo": "(self)", "trial": "(self, deeds)", "twin": "(self)",
        "labs": "(self)", "wishes": "(self)", "lab_of": "(self, name)", "wish_of": "(self, name)",
        "ask": "(self, name, *, most=60, deep=40)", "found": "(self)", "deeds": "(self)", "undone": "(self)"},
    Desk: {"say": "(self, line)"},
}
WISHES = [((("right", "end"),), (("road", "a"),)), ((("left", "wait"),), ())]
BEGIN = (("go", "stop"), ("ab", ""))
PRODUCT = (("a", False), ("ab", True), ("c", False))
BODY = ("then", ("again", ("send", "road", "a")), ("or", ("skip",), ("bare", "road")))
SMALL = Lab([("left", "go")], [("road", "ab"), ("back", "")], [
    ("left", "go", ("send", "road", "c"), "go"), ("left", "go", ("take", "road", "b"), "end")])
PARTS = [(("go",), ((("a", False), ("abc", True)), ())), (("end",), ((("abc", True),), ()))]
DEEDS = [("lab", "a"), ("machine", "a", "left", "go"), ("wish", "w", "a", (("left", "go"),), ()), ("many", ())]


def asks():
    """Of each function of the interface calls that only ask, as pairs (function, things)."""
    lab = post()
    paper = answer(lab, WISHES)
    return [
        (within, ["a", "ba"]), (spots, ["ab", "aab"]), (behind, ["ab", "a"]), (above, [BEGIN, BEGIN]),
        (least, [[BEGIN, (("go", "stop"), ("b", ""))]]), (lab.machines, []), (lab.rows, []), (lab.moves, []),
        (lab.stands, ["left"]), (lab.begin, []), (lab.has, [BEGIN]), (can, [lab, BEGIN, 0]), (done, [lab, BEGIN, 0]),
        (best, [lab, BEGIN, 2]), (ways, [lab, BEGIN]), (leaked, [lab, BEGIN, "road", 1]),
        (play, [lab, [("move", 0), ("leak", "road", 0)]]), (count, [[("move", 0), ("leak", "road", 0)]]),
        (best_run, [lab, [0, 2]]), (grants, [lab, WISHES[0], BEGIN]), (least_of, [lab, WISHES]),
        (turned, [lab, 0, (("wait", "stop"), ("aa", ""))]), (answer, [lab, WISHES]), (shows, [lab, WISHES, paper]),
        (shows, [lab, WISHES, ("never", [BEGIN])]), (holds, [PRODUCT, "ab"]), (inside, [PRODUCT, PRODUCT]),
        (plain, [PRODUCT]), (sent, [PRODUCT, "a"]), (taken, [PRODUCT, "b"]), (swollen, [PRODUCT, "ab"]),
        (product_of, ["ab"]), (product_text, [PRODUCT]), (read_product, ["a ab* c"]), (cover, [SMALL]),
        (shuts, [SMALL, PARTS]), (lets, [SMALL, [((), (("road", "b"),))], PARTS]), (ends, [lab]),
        (shows_goes, [lab, [0], [5, 0]]), (pieces, [lab]), (is_body, [BODY]), (parts, [BODY]), (body_text, [BODY]),
        (read_body, ["again(skip)"]), (compiled, ["left", BODY]), (lab_text, [lab]), (read_lab, [str(lab)]),
        (deed_text, [DEEDS[2]]), (deed_of, ["lab a"]), (bench_of, ["lab a\n"])]


class TestInterface(unittest.TestCase):
    def test_functions_and_classes(self):
        for file, wanted in FUNCTIONS.items():
            module = importlib.import_module(f"leakpost.{file}")
            for name, told in wanted.items():
                thing = getattr(module, name)
                self.assertEqual(str(inspect.signature(thing)), told, name)
                self.assertEqual(thing.__module__, f"leakpost.{file}")

    def test_methods(self):
        for owner, wanted in METHODS.items():
            for name, told in wanted.items():
                self.assertEqual(str(inspect.signature(vars(owner)[name])), told, name)

    def test_constants(self):
        back, runs = importlib.import_module("leakpost.back"), importlib.import_module("leakpost.ends")
        self.assertEqual((back.MOST_LIST, back.MOST_DEEP, runs.MOST_RUN), (60, 40, 6))

    def test_refusals(self):
        found = [thing for name, thing in vars(errors).items() if inspect.isclass(thing)]
        self.assertEqual(len(found), 20)
        for thing in found:
            if thing != errors.LeakError:
                self.assertEqual(thing.__bases__, (errors.LeakError,))
                self.assertEqual((thing().word, thing().at, thing(4).at), (thing.__name__.lower(), -1, 4))


class TestAsking(unittest.TestCase):
    def test_nothing_that_is_handed_in_is_changed(self):
        for ask, things in asks():
            was = copy.deepcopy(things)
            ask(*things)
            self.assertEqual(things, was, ask)

    def test_asked_again_the_same_is_told(self):
        for ask, things in asks():
            first = ask(*things)
            self.assertEqual(ask(*things), first, ask)
            self.assertEqual(ask(*copy.deepcopy(things)), first, ask)

    def test_lists_are_new_ones(self):
        def spoil(told):
            for inner in told if isinstance(told, (list, tuple)) else ():
                spoil(inner)
            if isinstance(told, list):
                told.append("what")

        def lists(told):
            inner = [one for each in told for one in lists(each)] if isinstance(told, (list, tuple)) else []
            return inner + ([told] if isinstance(told, list) else [])
        for ask, things in asks():
            wanted = copy.deepcopy(ask(*things))
            told = ask(*things)
            handed = [id(one) for one in lists(things)]
            self.assertTrue(all(id(one) not in handed for one in lists(told)), ask)
            spoil(told)
            self.assertEqual(ask(*things), wanted, ask)

    def test_lists_that_are_handed_in_are_kept_as_copies(self):
        machines, rows, moves = list(MACHINES), list(ROWS), list(MOVES)
        lab = Lab(machines, rows, moves)
        wishes = list(WISHES)
        search = Search(lab, wishes)
        first = search.layer(0)
        for things in (machines, rows, moves, wishes):
            things.clear()
        self.assertEqual(lab, post())
        self.assertEqual((search.layer(0), search.more()), (first, Search(lab, WISHES).more()))

    def test_a_bench_that_is_asked(self):
        bench = Bench()
        for deed in DEEDS:
            bench.do(deed)
        bench.lab("b")
        bench.undo()
        twin = bench.twin()
        desk = Desk(bench)
        for ask, things in (
                (bench.labs, []), (bench.wishes, []), (bench.lab_of, ["a"]), (bench.wish_of, ["w"]), (bench.deeds, []),
                (bench.undone, []), (page, [bench]), (repr, [bench]), (len, [bench]), (desk.say, ["labs"]),
                (desk.say, ["cover a"]), (desk.say, ["ends a"]), (desk.say, ["moves a"]), (desk.say, ["wishes"]),
                (bench.ask, ["w"]), (desk.say, ["ask w"]), (bench.trial, [[("lab", "c")]]), (bench.found, [])):
            first = ask(*things)
            self.assertEqual(ask(*things), first)
            self.assertEqual((bench, bench.deeds(), bench.undone()), (twin, twin.deeds(), twin.undone()))


if __name__ == "__main__":
    unittest.main()
