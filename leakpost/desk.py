"""A desk: answers in writing to lines about a bench."""

from leakpost.cover import cover
from leakpost.ends import ends
from leakpost.errors import BadText, LeakError
from leakpost.pages import deed_of, deed_text
from leakpost.runs import count
from leakpost.words import is_name


def names_text(names):
    """The names with a blank between."""
    return " ".join(names) if names else "none"


def undo_text(bench):
    """The deed that was taken back; NoDeed."""
    return deed_text(bench.undo())


def redo_text(bench):
    """The deed that was done again; NoDeed."""
    return deed_text(bench.redo())


def labs_text(bench):
    """The names of the labs."""
    return names_text(bench.labs())


def wishes_text(bench):
    """The names of the wishes."""
    return names_text(bench.wishes())


def ask_text(bench, name):
    """Whether the wish comes, and the count of moves or scenes; NoWish, Heavy."""
    word, things = bench.ask(name)
    many = count(things) if word == "comes" else len(things)
    return f"{word} {many}"


def ends_text(bench, name):
    """Whether the lab's runs end, and counts of moves; NoLab, Heavy."""
    told = ends(bench.lab_of(name))
    if told[0] == "ends":
        return f"ends {told[1]}"
    return f"goes {len(told[1])} {len(told[2])}"


def cover_text(bench, name):
    """The count of parts of the lab's cover; NoLab, Heavy."""
    return str(len(cover(bench.lab_of(name))))


def moves_text(bench, name):
    """The count of the lab's moves; NoLab."""
    return str(len(bench.lab_of(name)))


# What lines of one word and of a word and a name ask for.
LONE_LINES = {"undo": undo_text, "redo": redo_text, "labs": labs_text, "wishes": wishes_text}
NAME_LINES = {"ask": ask_text, "ends": ends_text, "cover": cover_text, "moves": moves_text}


def reply(bench, line):
    """The answer to the line; what the bench refuses."""
    if line in LONE_LINES:
        lone = LONE_LINES[line]
        return lone(bench)
    word, blank, name = line.partition(" ")
    if word in NAME_LINES:
        asked = NAME_LINES[word]
        return asked(bench, name) if is_name(name) else "what"
    try:
        deed = deed_of(line)
    except BadText:
        return "what"
    bench.do(deed)
    return "done"


class Desk:
    """Answers lines of its very bench."""

    def __init__(self, bench):
        self.bench = bench

    def say(self, line):
        """The answer to the line."""
        try:
            return reply(self.bench, line)
        except LeakError as refusal:
            return f"no {refusal.word}"
