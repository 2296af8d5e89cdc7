"""A bench: labs and wishes by names, changed by deeds that can be taken back."""

from leakpost.answers import answer, shows
from leakpost.back import MOST_DEEP, MOST_LIST
from leakpost.compiled import compiled
from leakpost.errors import BadDeed, BadName, Full, NoDeed, NoLab, NoMachine, NoMove, NoWish, Taken
from leakpost.lab import Lab
from leakpost.wishes import check_wish
from leakpost.words import is_name

MOST_LABS = 6
MOST_WISHES = 12


# A state is a pair of dicts, of labs and of pairs (lab's name, wish), by their names. It is never changed:
# each deed makes a new one of it, so that what is refused, taken back or tried leaves all as it was.


def lab_in(state, name):
    """The lab of that name; NoLab."""
    if name not in state[0]:
        raise NoLab()
    return state[0][name]


def with_lab(state, name, lab):
    """The state with that lab under the name."""
    labs, wishes = state
    return ({**labs, name: lab}, wishes)


def check_new(name, held):
    """Refuses BadName and Taken."""
    if not is_name(name):
        raise BadName()
    if name in held:
        raise Taken()


def pairs_of(things):
    """A copy of the pairs."""
    return tuple([tuple(pair) for pair in things])


def after_lab(state, name):
    """The state with a new lab; BadName, Taken, Full."""
    check_new(name, state[0])
    if len(state[0]) >= MOST_LABS:
        raise Full()
    return with_lab(state, name, Lab())


def after_drop(state, name):
    """The state without the lab and the wishes for it; NoLab."""
    lab_in(state, name)
    labs, wishes = state
    return ({one: labs[one] for one in labs if one != name},
            {one: wishes[one] for one in wishes if wishes[one][0] != name})


def after_machine(state, lab, name, first):
    """The state with one more machine in the lab; NoLab, and what Lab refuses."""
    old = lab_in(state, lab)
    return with_lab(state, lab, Lab(old.machines() + [(name, first)], old.rows(), old.moves()))


def after_row(state, lab, name, word):
    """The state with one more row in the lab; NoLab, and what Lab refuses."""
    old = lab_in(state, lab)
    return with_lab(state, lab, Lab(old.machines(), old.rows() + [(name, word)], old.moves()))


def after_move(state, lab, machine, start, act, end):
    """The state with one more move in the lab; NoLab, and what Lab refuses."""
    old = lab_in(state, lab)
    return with_lab(state, lab, Lab(old.machines(), old.rows(), old.moves() + [(machine, start, act, end)]))


def after_strike(state, lab, place):
    """The state without that move of the lab; NoLab, NoMove."""
    old = lab_in(state, lab)
    moves = old.moves()
    if place < 0 or place >= len(moves):
        raise NoMove()
    return with_lab(state, lab, Lab(old.machines(), old.rows(), moves[:place] + moves[place + 1:]))


def after_load(state, lab, machine, body):
    """The state with the body's moves for those of the machine; NoLab, NoMachine, BadBody, NoRow, Full."""
    old = lab_in(state, lab)
    if machine not in old.machine_places:
        raise NoMachine()
    first, moves, last = compiled(machine, body)
    machines = [(name, first if name == machine else held) for name, held in old.machines()]
    others = [move for move in old.moves() if move[0] != machine]
    # Each row of the body is named by a move, so Lab refuses NoRow, and Full behind it.
    return with_lab(state, lab, Lab(machines, old.rows(), others + moves))


def after_wish(state, name, lab, stands, words):
    """The state with one more wish; BadName, Taken, NoLab, BadWish, Full."""
    labs, wishes = state
    check_new(name, wishes)
    wish = (pairs_of(stands), pairs_of(words))
    check_wish(lab_in(state, lab), wish)
    if len(wishes) >= MOST_WISHES:
        raise Full()
    return (labs, {**wishes, name: (lab, wish)})


def after_unwish(state, name):
    """The state without the wish; NoWish."""
    labs, wishes = state
    if name not in wishes:
        raise NoWish()
    return (labs, {one: wishes[one] for one in wishes if one != name})


# Of each deed's word how many things it is of, the word too.
DEED_SIZES = {"lab": 2, "drop": 2, "machine": 4, "row": 4, "move": 6, "strike": 3, "load": 4, "wish": 5,
              "unwish": 2, "many": 2}
DEED_ACTIONS = {"lab": after_lab, "drop": after_drop, "machine": after_machine, "row": after_row,
                "move": after_move, "strike": after_strike, "load": after_load, "wish": after_wish,
                "unwish": after_unwish}


def is_many(deed):
    """Whether the deed is of several ones."""
    return len(deed) > 0 and deed[0] == "many"


def after_all(state, deeds):
    """The state behind these deeds, done one by one; what the first of them refuses that does."""
    for deed in deeds:
        state = after_deed(state, deed)
    return state


def after_deed(state, deed):
    """The state behind the deed; BadDeed, and what the deed refuses."""
    if len(deed) == 0 or DEED_SIZES.get(deed[0]) != len(deed):
        raise BadDeed()
    if is_many(deed):
        if any([is_many(one) for one in deed[1]]):
            raise BadDeed()
        return after_all(state, deed[1])
    action = DEED_ACTIONS[deed[0]]
    things = deed[1:]
    return action(state, *things)


def kept(deed):
    """A copy of a deed that was done, of tuples throughout."""
    if is_many(deed):
        return ("many", tuple([kept(one) for one in deed[1]]))
    if deed[0] == "move":
        word, lab, machine, start, act, end = deed
        return (word, lab, machine, start, tuple(act), end)
    if deed[0] == "wish":
        word, name, lab, stands, words = deed
        return (word, name, lab, pairs_of(stands), pairs_of(words))
    return tuple(deed)


def copied(paper):
    """A copy of the paper with a list of its own."""
    word, things = paper
    return (word, list(things))


class Bench:
    """Labs and wishes, the deeds that made them, and the papers that were told of wishes."""

    def __init__(self):
        self.state = ({}, {})
        # Pairs (deed, state ahead of it) of what was done, (deed, state behind it) of what was taken back.
        self.past = []
        self.ahead = []
        self.papers = {}
        self.search_count = 0

    def lab(self, name):
        """A lab with nothing; BadName, Taken, Full."""
        self.do(("lab", name))

    def drop(self, name):
        """The lab is gone, and the wishes for it; NoLab."""
        self.do(("drop", name))

    def machine(self, lab, name, first):
        """One more machine; NoLab, and what Lab refuses."""
        self.do(("machine", lab, name, first))

    def row(self, lab, name, word):
        """One more row; NoLab, and what Lab refuses."""
        self.do(("row", lab, name, word))

    def move(self, lab, machine, start, act, end):
        """One more move; NoLab, and what Lab refuses."""
        self.do(("move", lab, machine, start, act, end))

    def strike(self, lab, place):
        """The move is gone; NoLab, NoMove."""
        self.do(("strike", lab, place))

    def load(self, lab, machine, body):
        """The machine's moves are made of the body; NoLab, NoMachine, BadBody, NoRow, Full."""
        self.do(("load", lab, machine, body))

    def wish(self, name, lab, stands, words):
        """One more wish; BadName, Taken, NoLab, BadWish, Full."""
        self.do(("wish", name, lab, stands, words))

    def unwish(self, name):
        """The wish is gone; NoWish."""
        self.do(("unwish", name))

    def many(self, deeds):
        """Several deeds as one; BadDeed, and what the first of them refuses that does."""
        self.do(("many", deeds))

    def do(self, deed):
        """Does the deed; BadDeed, and what the deed refuses."""
        after = after_deed(self.state, deed)
        self.past.append((kept(deed), self.state))
        self.state = after
        self.ahead = []

    def undo(self):
        """Takes the last deed back and tells it; NoDeed."""
        if len(self.past) == 0:
            raise NoDeed()
        deed, before = self.past.pop()
        self.ahead.append((deed, self.state))
        self.state = before
        return deed

    def redo(self):
        """Does again what was taken back last and tells it; NoDeed."""
        if len(self.ahead) == 0:
            raise NoDeed()
        deed, after = self.ahead.pop()
        self.past.append((deed, self.state))
        self.state = after
        return deed

    def trial(self, deeds):
        """Does the deeds one by one and leaves all as it was; what the first of them refuses that does."""
        after_all(self.state, deeds)

    def twin(self):
        """A bench that has all of this one, and goes its own way."""
        other = Bench()
        other.state = self.state
        other.past = list(self.past)
        other.ahead = list(self.ahead)
        other.papers = {key: self.papers[key] for key in self.papers}
        other.search_count = self.search_count
        return other

    def labs(self):
        """The names of the labs."""
        return list(self.state[0])

    def wishes(self):
        """The names of the wishes."""
        return list(self.state[1])

    def lab_of(self, name):
        """The lab of that name; NoLab."""
        return lab_in(self.state, name)

    def wish_of(self, name):
        """The pair (lab's name, wish) of that name; NoWish."""
        if name not in self.state[1]:
            raise NoWish()
        return self.state[1][name]

    def ask(self, name, *, most=MOST_LIST, deep=MOST_DEEP):
        """A paper of the wish, the kept one where it is still good; NoWish, Heavy."""
        key = self.wish_of(name)
        home, wish = key
        lab = self.lab_of(home)
        if key not in self.papers or not shows(lab, [wish], self.papers[key]):
            self.search_count += 1
            self.papers[key] = answer(lab, [wish], most=most, deep=deep)
        return copied(self.papers[key])

    def found(self):
        """How often this bench has searched."""
        return self.search_count

    def deeds(self):
        """The deeds done and not taken back, the first one first."""
        return [deed for deed, before in self.past]

    def undone(self):
        """The deeds that can be done again, the next one first."""
        return [deed for deed, after in self.ahead[::-1]]

    def __eq__(self, other):
        return (isinstance(other, Bench) and list(self.state[0].items()) == list(other.state[0].items())
                and list(self.state[1].items()) == list(other.state[1].items()))

    def __len__(self):
        return len(self.state[0])

    def __repr__(self):
        return f"Bench({len(self.state[0])} labs, {len(self.state[1])} wishes)"
