"""The refusals of the program: one class for each kind."""


class LeakError(ValueError):
    """Any refusal: word is the class's name in small letters, at a number, -1 where none is told."""

    def __init__(self, at=-1, word="leakerror"):
        ValueError.__init__(self, word if at < 0 else f"{word} at {at}")
        self.word = word
        self.at = at


class BadName(LeakError):
    """What should be a name is none."""

    def __init__(self, at=-1):
        LeakError.__init__(self, at, "badname")


class BadWord(LeakError):
    """What should be a word or a letter is none."""

    def __init__(self, at=-1):
        LeakError.__init__(self, at, "badword")


class BadAct(LeakError):
    """What should be an act is none."""

    def __init__(self, at=-1):
        LeakError.__init__(self, at, "badact")


class BadScene(LeakError):
    """A scene is none of the lab's."""

    def __init__(self, at=-1):
        LeakError.__init__(self, at, "badscene")


class BadWish(LeakError):
    """A wish does not fit its lab."""

    def __init__(self, at=-1):
        LeakError.__init__(self, at, "badwish")


class BadBody(LeakError):
    """What should be a body is none."""

    def __init__(self, at=-1):
        LeakError.__init__(self, at, "badbody")


class BadAtom(LeakError):
    """What should be a product is none."""

    def __init__(self, at=-1):
        LeakError.__init__(self, at, "badatom")


class BadDeed(LeakError):
    """What should be a deed is none, or may not stand there."""

    def __init__(self, at=-1):
        LeakError.__init__(self, at, "baddeed")


class BadText(LeakError):
    """A text is not written as told; at is its first bad line."""

    def __init__(self, at=-1):
        LeakError.__init__(self, at, "badtext")


class Taken(LeakError):
    """The name is in use."""

    def __init__(self, at=-1):
        LeakError.__init__(self, at, "taken")


class Full(LeakError):
    """There is room for no more."""

    def __init__(self, at=-1):
        LeakError.__init__(self, at, "full")


class Heavy(LeakError):
    """A search grew beyond what it was let; at is where it stopped."""

    def __init__(self, at=-1):
        LeakError.__init__(self, at, "heavy")


class NoMachine(LeakError):
    """There is no such machine."""

    def __init__(self, at=-1):
        LeakError.__init__(self, at, "nomachine")


class NoRow(LeakError):
    """There is no such row."""

    def __init__(self, at=-1):
        LeakError.__init__(self, at, "norow")


class NoMove(LeakError):
    """There is no such move, or it can't be done."""

    def __init__(self, at=-1):
        LeakError.__init__(self, at, "nomove")


class NoLetter(LeakError):
    """There is no letter at that place."""

    def __init__(self, at=-1):
        LeakError.__init__(self, at, "noletter")


class NoLab(LeakError):
    """There is no such lab."""

    def __init__(self, at=-1):
        LeakError.__init__(self, at, "nolab")


class NoWish(LeakError):
    """There is no such wish."""

    def __init__(self, at=-1):
        LeakError.__init__(self, at, "nowish")


class NoDeed(LeakError):
    """There is nothing to take back, to do again or to tell."""

    def __init__(self, at=-1):
        LeakError.__init__(self, at, "nodeed")
