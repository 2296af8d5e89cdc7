"""Labs in writing."""

from leakpost.errors import BadText, LeakError
from leakpost.lab import Lab
from leakpost.words import is_word

# The words with which lines begin, in the order of the lines, and how many words a line of each has.
LINE_SIZES = {"machine": 3, "row": 3, "move": 5}


def read_word(text):
    """The word that the text writes; BadText."""
    if text == "" or not is_word(text) and text != "-":
        raise BadText(0)
    return "" if text == "-" else text


def read_act(text):
    """The tuple that the text writes, be it an act or not."""
    return tuple(text.split("."))


def thing_of(words):
    """The pair or move that a line of these words tells; BadText."""
    if LINE_SIZES.get(words[0]) != len(words):
        raise BadText(0)
    if words[0] == "machine":
        return (words[1], words[2])
    if words[0] == "row":
        return (words[1], read_word(words[2]))
    return (words[1], words[2], read_act(words[3]), words[4])


def read_line(lab, line):
    """The lab with what the line tells behind all else; BadText, and what a lab refuses."""
    words = line.split(" ")
    thing = thing_of(words)
    if words[0] == "move":
        return Lab(lab.machines(), lab.rows(), lab.moves() + [thing])
    if lab.moves() or words[0] == "machine" and lab.rows():
        raise BadText(0)
    if words[0] == "row":
        return Lab(lab.machines(), lab.rows() + [thing])
    return Lab(lab.machines() + [thing])


def lab_text(lab):
    """The lab in writing."""
    return str(lab)


def read_lab(text):
    """The lab that the text writes; BadText."""
    lines = text.split("\n")
    rest = lines.pop()
    lab = Lab()
    for at, line in enumerate(lines):
        try:
            lab = read_line(lab, line)
        except LeakError:
            raise BadText(at) from None
    if rest != "":
        raise BadText(len(lines))
    return lab
