"""Bodies: small programs of acts, built of one another, and their texts."""

from leakpost.errors import BadBody, BadText
from leakpost.words import is_letter, is_name

MOST_PARTS = 24
MOST_LEVELS = 6
# How many inner bodies those have that are built of others.
INNER_COUNTS = {"then": 2, "or": 2, "again": 1}


def inner(body):
    """The bodies of which the body is built."""
    return body[1:] if body[0] in INNER_COUNTS else ()


def is_single(thing):
    """Whether the thing is a body without another one in it."""
    if not all([isinstance(one, str) for one in thing]):
        return False
    if thing == ("skip",):
        return True
    if thing[0] == "bare":
        return len(thing) == 2 and is_name(thing[1])
    if thing[0] == "send" or thing[0] == "take":
        return len(thing) == 3 and is_name(thing[1]) and is_letter(thing[2])
    return False


def is_built(thing, levels):
    """Whether the thing is a body but for its count of parts, and at most so many levels deep."""
    if not isinstance(thing, tuple) or len(thing) == 0 or levels == 0:
        return False
    if thing[0] not in INNER_COUNTS:
        return is_single(thing)
    if len(thing) != INNER_COUNTS[thing[0]] + 1:
        return False
    return all([is_built(one, levels - 1) for one in inner(thing)])


def all_parts(body):
    """The list of all bodies in it, itself first, then those of each inner one."""
    found = [body]
    for one in inner(body):
        found.extend(all_parts(one))
    return found


def is_body(thing):
    """Whether the thing, a tuple of texts and such tuples, is a body."""
    # The levels are looked at first, so that what is very deep is not gone through.
    return is_built(thing, MOST_LEVELS) and len(all_parts(thing)) <= MOST_PARTS


def check_body(body):
    """Refuses BadBody."""
    if not is_body(body):
        raise BadBody()


def parts(body):
    """The list of all bodies in it, itself first, then those of x, then those of y; BadBody."""
    check_body(body)
    return all_parts(body)


def text_of(thing):
    """The text of a body, or of a row or a letter in it."""
    if isinstance(thing, str):
        return thing
    if len(thing) == 1:
        return thing[0]
    things = ",".join([text_of(one) for one in thing[1:]])
    return f"{thing[0]}({things})"


def body_text(body):
    """The body in writing; BadBody."""
    check_body(body)
    return text_of(body)


def cut(text):
    """The pieces of the text between the commas that stand in no brackets."""
    pieces = []
    start = 0
    levels = 0
    for at, sign in enumerate(text):
        if sign == "(":
            levels += 1
        elif sign == ")":
            levels -= 1
        elif sign == "," and levels == 0:
            pieces.append(text[start:at])
            start = at + 1
    return pieces + [text[start:]]


def read_built(text, levels):
    """The tuple that the text writes, be it a body or not; BadText."""
    if text == "skip":
        return ("skip",)
    if levels == 0 or not text.endswith(")"):
        raise BadText(0)
    word, bracket, rest = text[:-1].partition("(")
    if word in INNER_COUNTS:
        return (word,) + tuple([read_built(one, levels - 1) for one in cut(rest)])
    return (word,) + tuple(rest.split(","))


def read_body(text):
    """The body that the text writes; BadText."""
    body = read_built(text, MOST_LEVELS)
    if not is_body(body):
        raise BadText(0)
    return body
