"""Labs: machines, rows, and the moves by which machines go on, send and take."""

from leakpost.errors import BadAct, BadName, BadWord, Full, NoMachine, NoRow, Taken
from leakpost.words import is_letter, is_name, is_word

MOST_MACHINES = 3
MOST_ROWS = 3
MOST_MOVES = 24
MOST_STANDS = 6
MOST_WORD = 8
# How many things an act of each word has, the word too.
ACT_SIZES = {"send": 3, "take": 3, "bare": 2, "idle": 1}


def is_short_word(text):
    """Whether the text is a word that a row may begin with and a wish may have."""
    return len(text) <= MOST_WORD and is_word(text)


def check_machines(pairs):
    """Refuses BadName and Taken."""
    seen = {}
    for name, first in pairs:
        if not is_name(name) or not is_name(first):
            raise BadName()
        if name in seen:
            raise Taken()
        seen[name] = True


def check_rows(pairs):
    """Refuses BadName, Taken and BadWord."""
    seen = {}
    for name, word in pairs:
        if not is_name(name):
            raise BadName()
        if name in seen:
            raise Taken()
        if not is_short_word(word):
            raise BadWord()
        seen[name] = True


def check_act(act, row_places):
    """Refuses BadAct, NoRow and BadWord."""
    if len(act) == 0 or ACT_SIZES.get(act[0]) != len(act):
        raise BadAct()
    if len(act) > 1 and act[1] not in row_places:
        raise NoRow()
    if len(act) > 2 and not is_letter(act[2]):
        raise BadWord()


def check_moves(moves, machine_places, row_places):
    """Refuses NoMachine, BadName and what an act is refused for."""
    for machine, start, act, end in moves:
        if machine not in machine_places:
            raise NoMachine()
        if not is_name(start) or not is_name(end):
            raise BadName()
        check_act(act, row_places)


def places_of(pairs):
    """Of each pair's name its place."""
    return {name: at for at, (name, thing) in enumerate(pairs)}


def stands_of(machines, moves):
    """Of each machine's name the tuple of its stands, rising."""
    found = {name: [first] for name, first in machines}
    for machine, start, act, end in moves:
        found[machine].append(start)
        found[machine].append(end)
    return {name: tuple(sorted(set(found[name]))) for name in found}


def step_of(move, machine_places, row_places):
    """The move with places for names: (machine, start, act's word, row or -1, letter or none, end)."""
    machine, start, act, end = move
    row = row_places[act[1]] if len(act) > 1 else -1
    letter = act[2] if len(act) > 2 else ""
    return (machine_places[machine], start, act[0], row, letter, end)


def word_text(word):
    """The word in writing."""
    return word if word else "-"


def act_text(act):
    """The act in writing."""
    return ".".join(act)


def lab_lines(lab):
    """The lines of the lab in writing, without line feeds."""
    machines = [f"machine {name} {first}" for name, first in lab.machines()]
    rows = [f"row {name} {word_text(word)}" for name, word in lab.rows()]
    moves = [f"move {machine} {start} {act_text(act)} {end}" for machine, start, act, end in lab.moves()]
    return machines + rows + moves


class Lab:
    """Machines, rows and moves; a lab never changes once it is made."""

    def __init__(self, machines=(), rows=(), moves=()):
        self.machine_pairs = tuple([tuple(pair) for pair in machines])
        self.row_pairs = tuple([tuple(pair) for pair in rows])
        self.whole_moves = tuple([(name, start, tuple(act), end) for name, start, act, end in moves])
        check_machines(self.machine_pairs)
        check_rows(self.row_pairs)
        self.machine_places = places_of(self.machine_pairs)
        self.row_places = places_of(self.row_pairs)
        check_moves(self.whole_moves, self.machine_places, self.row_places)
        self.stand_lists = stands_of(self.machine_pairs, self.whole_moves)
        if self.is_over():
            raise Full()
        self.steps = tuple([step_of(move, self.machine_places, self.row_places) for move in self.whole_moves])

    def is_over(self):
        """Whether there is more of something than a lab may have."""
        if len(self.machine_pairs) > MOST_MACHINES or len(self.row_pairs) > MOST_ROWS:
            return True
        if len(self.whole_moves) > MOST_MOVES:
            return True
        return any([len(stands) > MOST_STANDS for stands in self.stand_lists.values()])

    def machines(self):
        """The list of pairs (name, first)."""
        return list(self.machine_pairs)

    def rows(self):
        """The list of pairs (name, word)."""
        return list(self.row_pairs)

    def moves(self):
        """The list of tuples (machine, start, act, end)."""
        return list(self.whole_moves)

    def stands(self, machine):
        """The machine's stands, rising; NoMachine."""
        if machine not in self.stand_lists:
            raise NoMachine()
        return list(self.stand_lists[machine])

    def begin(self):
        """The scene at the beginning."""
        return (tuple([first for name, first in self.machine_pairs]), tuple([word for name, word in self.row_pairs]))

    def has(self, scene):
        """Whether the scene is one of the lab's."""
        stands, words = scene
        if len(stands) != len(self.machine_pairs) or len(words) != len(self.row_pairs):
            return False
        for (name, first), stand in zip(self.machine_pairs, stands):
            if stand not in self.stand_lists[name]:
                return False
        return all([is_word(word) for word in words])

    def __eq__(self, other):
        return (isinstance(other, Lab) and self.machine_pairs == other.machine_pairs
                and self.row_pairs == other.row_pairs and self.whole_moves == other.whole_moves)

    def __len__(self):
        return len(self.whole_moves)

    def __repr__(self):
        return f"Lab({len(self.machine_pairs)} machines, {len(self.row_pairs)} rows, {len(self.whole_moves)} moves)"

    def __str__(self):
        return "".join([line + "\n" for line in lab_lines(self)])
