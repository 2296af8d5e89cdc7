"""Deeds in writing, and pages of all deeds of a bench."""

from leakpost.bench import Bench
from leakpost.bodies import body_text, is_single, read_body
from leakpost.errors import BadText, LeakError
from leakpost.lab import act_text, word_text
from leakpost.labtext import read_act, read_word
from leakpost.words import is_name

FIGURES = "0123456789"
MOST_FIGURES = 6
# Of each deed's word the kinds of the things behind it.
FORMS = {
    "lab": ("name",),
    "drop": ("name",),
    "machine": ("name", "name", "name"),
    "row": ("name", "name", "word"),
    "move": ("name", "name", "name", "act", "name"),
    "strike": ("name", "place"),
    "load": ("name", "name", "body"),
    "wish": ("name", "name", "stands", "words"),
    "unwish": ("name",),
}


def pairs_text(pairs):
    """A wish's stands or words in writing."""
    if len(pairs) == 0:
        return "-"
    return ";".join([f"{name}:{word_text(thing)}" for name, thing in pairs])


def read_name(text):
    """The name that the text writes; BadText."""
    if not is_name(text):
        raise BadText(0)
    return text


def read_deed_act(text):
    """The act that the text writes, of a name and a letter where it has such; BadText."""
    act = read_act(text)
    # Acts but idle are bodies, too, and of the single bodies only skip is no act.
    if act != ("idle",) and (act == ("skip",) or not is_single(act)):
        raise BadText(0)
    return act


def read_place(text):
    """The place that the text writes; BadText."""
    if text == "" or len(text) > MOST_FIGURES or not all([sign in FIGURES for sign in text]):
        raise BadText(0)
    if text.startswith("0") and text != "0":
        raise BadText(0)
    return int(text)


def cut_pairs(text):
    """The pairs (name, text behind the colon) that the text has; BadText."""
    if text == "-":
        return []
    cuts = [piece.partition(":") for piece in text.split(";")]
    return [(read_name(name), rest) for name, colon, rest in cuts]


def read_stands(text):
    """The pairs (machine, stand) that the text writes; BadText."""
    return tuple([(name, read_name(rest)) for name, rest in cut_pairs(text)])


def read_words(text):
    """The pairs (row, word) that the text writes; BadText."""
    return tuple([(name, read_word(rest)) for name, rest in cut_pairs(text)])


def written(kind, thing):
    """The thing of that kind in writing."""
    if kind == "word":
        return word_text(thing)
    if kind == "act":
        return act_text(thing)
    if kind == "place":
        return str(thing)
    if kind == "body":
        return body_text(thing)
    if kind == "stands" or kind == "words":
        return pairs_text(thing)
    return thing


def read(kind, text):
    """The thing of that kind that the text writes; BadText."""
    if kind == "word":
        return read_word(text)
    if kind == "act":
        return read_deed_act(text)
    if kind == "place":
        return read_place(text)
    if kind == "body":
        return read_body(text)
    if kind == "stands":
        return read_stands(text)
    if kind == "words":
        return read_words(text)
    return read_name(text)


def deed_text(deed):
    """The deed in writing."""
    if deed[0] == "many":
        return "all:" + "&".join([" " + deed_text(one) for one in deed[1]])
    things = [written(kind, thing) for kind, thing in zip(FORMS[deed[0]], deed[1:])]
    return " ".join([deed[0]] + things)


def single_deed(text):
    """The deed, none of several ones, that the text writes; BadText."""
    words = text.split(" ")
    if words[0] not in FORMS or len(words) != len(FORMS[words[0]]) + 1:
        raise BadText(0)
    return (words[0],) + tuple([read(kind, word) for kind, word in zip(FORMS[words[0]], words[1:])])


def deed_behind_blank(text):
    """The deed that the text writes behind its first blank; BadText."""
    if not text.startswith(" "):
        raise BadText(0)
    return single_deed(text[1:])


def deed_of(text):
    """The deed that the text writes; BadText."""
    if text == "all:":
        return ("many", ())
    if text.startswith("all:"):
        return ("many", tuple([deed_behind_blank(piece) for piece in text[4:].split("&")]))
    return single_deed(text)


def page(bench):
    """A line for each deed done and not taken back."""
    return "".join([deed_text(deed) + "\n" for deed in bench.deeds()])


def bench_of(text):
    """The bench that has done the deeds of the page; BadText."""
    lines = text.split("\n")
    rest = lines.pop()
    bench = Bench()
    for at, line in enumerate(lines):
        try:
            bench.do(deed_of(line))
        except LeakError:
            raise BadText(at) from None
    if rest != "":
        raise BadText(len(lines))
    return bench
