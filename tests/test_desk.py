"""A desk: lines about a bench, and their answers."""

import unittest

from leakpost.bench import Bench
from leakpost.cover import cover
from leakpost.desk import Desk
from leakpost.ends import ends
from leakpost.errors import LeakError
from leakpost.pages import bench_of, deed_of, deed_text
from leakpost.runs import count
from straight import any_lab, any_wishes

LINES = [
    "lab post", "machine post left go", "machine post right stop", "row post road b",
    "move post left go send.road.a go", "all: move post right stop take.road.a run& move post right run bare.road end",
    "wish end post right:end -", "wish lost post right:end road:b", "wish first post - -", "strike post 0",
    "all:", "load post left again(send(road,a))", "unwish first", "lab other", "drop other"]


def filled():
    """A desk with a bench that has done the lines."""
    return Desk(bench_of("".join(line + "\n" for line in LINES)))


class Desks(unittest.TestCase):
    def says(self, desk, *pairs):
        """That the desk answers each line so."""
        for line, told in pairs:
            self.assertEqual(desk.say(line), told, line)


class TestDeeds(Desks):
    def test_its_very_bench(self):
        bench = Bench()
        desk = Desk(bench)
        self.assertIs(desk.bench, bench)
        self.assertEqual(desk.say("lab a"), "done")
        self.assertEqual(bench.labs(), ["a"])
        bench.lab("b")
        self.assertEqual(desk.say("labs"), "a b")
        other = Desk(bench=bench)
        self.says(other, ("undo", "lab b"), ("labs", "a"))
        self.says(desk, ("labs", "a"), ("redo", "lab b"))
        self.assertIs(desk.bench, bench)

    def test_each_deed(self):
        desk, bench = Desk(Bench()), Bench()
        for line in LINES:
            self.assertEqual(desk.say(line=line), "done")
            bench.do(deed_of(line))
            self.assertEqual((desk.bench, desk.bench.deeds()), (bench, bench.deeds()))

    def test_undo_and_redo(self):
        desk = filled()
        for line in LINES[::-1]:
            self.assertEqual(desk.say("undo"), line)
        self.says(desk, ("undo", "no nodeed"), ("labs", "none"))
        for line in LINES:
            self.assertEqual(desk.say("redo"), line)
        self.says(desk, ("redo", "no nodeed"), ("labs", "post"))

    def test_what_is_refused(self):
        desk = filled()
        was = desk.bench.deeds()
        self.says(
            desk, ("lab post", "no taken"), ("drop other", "no nolab"), ("machine other left go", "no nolab"),
            ("machine post left go", "no taken"), ("row post road -", "no taken"),
            ("row post back abcdefghi", "no badword"), ("move post up go idle go", "no nomachine"),
            ("move post left go bare.up go", "no norow"), ("strike post 5", "no nomove"),
            ("strike other 0", "no nolab"), ("load post up skip", "no nomachine"),
            ("load post left bare(up)", "no norow"), ("wish end post - -", "no taken"),
            ("wish new other - -", "no nolab"),
            ("wish new post up:go -", "no badwish"), ("wish new post left:go;left:go -", "no badwish"),
            ("wish new post - road:abcdefghi", "no badwish"), ("unwish new", "no nowish"),
            ("all: lab a& lab a", "no taken"), ("all: lab a& unwish a", "no nowish"), ("ask new", "no nowish"),
            ("ask post", "no nowish"), ("ends other", "no nolab"), ("cover other", "no nolab"),
            ("moves other", "no nolab"), ("redo", "no nodeed"))
        for name in "abcde":
            desk.say(f"lab {name}")
        self.says(desk, ("lab f", "no full"), ("lab e", "no taken"))
        for each in range(5):
            desk.say("undo")
        self.assertEqual(desk.bench.deeds(), was)

    def test_each_refused_word(self):
        desk = filled()
        for line in ("lab post", "drop up", "strike post 99", "load post left bare(up)", "unwish up"):
            with self.assertRaises(LeakError) as caught:
                desk.bench.do(deed_of(line))
            self.assertEqual(desk.say(line), f"no {caught.exception.word}")


class TestQuestions(Desks):
    def test_names(self):
        desk = Desk(Bench())
        self.says(desk, ("labs", "none"), ("wishes", "none"), ("lab b", "done"), ("labs", "b"), ("lab a", "done"),
                  ("labs", "b a"), ("wish z a - -", "done"), ("wishes", "z"), ("wish y b - -", "done"),
                  ("wishes", "z y"), ("drop a", "done"), ("labs", "b"), ("wishes", "y"), ("undo", "drop a"),
                  ("labs", "b a"), ("wishes", "z y"))

    def test_ask(self):
        desk = filled()
        self.says(desk, ("ask end", "comes 4"), ("ask lost", "never 3"), ("undo", "drop other"))
        self.assertEqual(desk.bench.found(), 2)
        self.says(desk, ("ask end", "comes 4"), ("wish now post - -", "done"), ("ask now", "comes 0"),
                  ("wish vain post left:far -", "done"), ("ask vain", "never 0"))
        self.assertEqual(desk.bench.found(), 4)

    def test_leaks_are_no_moves(self):
        desk = filled()
        run = desk.bench.ask("end")[1]
        self.assertEqual((count(run), len(run)), (4, 5))

    def test_heavy(self):
        desk = Desk(Bench())
        self.says(desk, ("lab a", "done"), ("machine a m p", "done"), ("row a x -", "done"),
                  ("move a m p send.x.a q", "done"), ("move a m q send.x.b p", "done"), ("cover a", "no heavy"),
                  ("ends a", "goes 0 2"))
        desk = Desk(Bench())
        self.says(desk, ("lab a", "done"), ("machine a m p", "done"), ("row a x abababab", "done"),
                  ("move a m p take.x.a q", "done"), ("move a m q take.x.b p", "done"), ("ends a", "no heavy"),
                  ("cover a", "2"), ("moves a", "2"))

    def test_a_heavy_ask(self):
        desk = Desk(Bench())
        self.says(desk, ("lab a", "done"))
        for name in "xyz":
            self.says(desk, (f"machine a {name} a", "done"))
            for stand in "bcdef":
                self.says(desk, (f"move a {name} a idle {stand}", "done"))
        self.says(desk, ("wish w a - -", "done"), ("ask w", "no heavy"))
        self.assertEqual(desk.bench.found(), 1)
        self.says(desk, ("ask w", "no heavy"))
        self.assertEqual(desk.bench.found(), 2)

    def test_ends_cover_and_moves(self):
        desk = filled()
        self.says(desk, ("moves post", "5"), ("ends post", "goes 1 1"), ("cover post", "7"), ("lab none", "done"),
                  ("moves none", "0"), ("ends none", "ends 0"), ("cover none", "1"))

    def test_many_labs_as_told(self):
        answers = set()
        for seed in range(60):
            desk = Desk(Bench())
            lab = any_lab(seed, moves=seed % 7)
            wish = any_wishes(lab, seed)[0]
            desk.bench.many([("lab", "a")] + [("machine", "a") + pair for pair in lab.machines()]
                            + [("row", "a") + pair for pair in lab.rows()]
                            + [("move", "a") + move for move in lab.moves()] + [("wish", "w", "a") + wish])
            self.assertEqual(desk.say("moves a"), str(len(lab)))
            for line, ask in (("ends a", ends), ("cover a", cover)):
                try:
                    told = ask(lab)
                    if line == "cover a":
                        wanted = str(len(told))
                    elif told[0] == "ends":
                        wanted = f"ends {told[1]}"
                    else:
                        wanted = f"goes {len(told[1])} {len(told[2])}"
                except LeakError as error:
                    wanted = f"no {error.word}"
                self.assertEqual(desk.say(line), wanted)
                answers.add(wanted.split(" ")[0])
            told = desk.bench.ask("w")
            wanted = count(told[1]) if told[0] == "comes" else len(told[1])
            self.assertEqual(desk.say("ask w"), f"{told[0]} {wanted}")
            self.assertEqual(desk.say("undo"), deed_text(desk.bench.undone()[0]))
        self.assertLessEqual({"no", "ends", "goes"}, answers)


class TestOtherLines(Desks):
    def test_lines_of_no_form(self):
        desk = filled()
        desk.say("undo")
        was = (desk.bench.deeds(), desk.bench.undone(), desk.bench.found())
        for line in (
                "", " ", "  ", "what", "none", "done", "no", "undo ", " undo", "undo 1", "redo ", "redo lab a", "Undo",
                "labs ", " labs", "labs a", "labs post", "wishes ", "wishes post", "LABS", "ask", "ask ", "ask  end",
                " ask end", "ask end ", "ask end lost", "ask End", "ask -", "ask endendend", "ask 1", "ends", "ends ",
                "ends  post", "ends post ", "ends post post", "ends Post", "cover", "cover ", "cover post 60",
                "cover Post", "cover  post", "moves", "moves ", "moves post 0", "moves Post", "moves -", "lab", "lab A",
                "lab a b", "lab  a", " lab a", "lab a ", "lab aaaaaaaaa", "strike post -1", "strike post 01",
                "strike post 1000000", "row post back A", "row post back", "move post left go skip go",
                "load post left idle", "load post left skip ", "wish w post", "wish w post left -", "all", "all: ",
                "all: undo", "all: labs", "all: all:", "all: lab a&lab b", "many", "trial lab a", "twin", "found",
                "deeds", "do lab a", "undo& undo", "found post", "page", "lab_of post", "-", "&", ":"):
            self.assertEqual(desk.say(line), "what", line)
        self.assertEqual((desk.bench.deeds(), desk.bench.undone(), desk.bench.found()), was)

    def test_names_that_are_not_there_are_names(self):
        desk = Desk(Bench())
        self.says(desk, ("ask a", "no nowish"), ("ask aaaaaaaa", "no nowish"), ("ends a", "no nolab"),
                  ("cover a", "no nolab"), ("moves aaaaaaaa", "no nolab"), ("moves aaaaaaaaa", "what"))


if __name__ == "__main__":
    unittest.main()
