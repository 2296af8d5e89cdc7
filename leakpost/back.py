"""Moves turned back, and the layers of scenes from which wishes are so many moves away."""

from leakpost.errors import Heavy, NoDeed
from leakpost.moves import check_scene, step_at, with_stand, with_word
from leakpost.scenes import above, above_any, least_up_to, not_above
from leakpost.wishes import least_of

MOST_LIST = 60
MOST_DEEP = 40


def word_before(kind, word, letter):
    """The least word from which an act leads to one that has the told word within, or None."""
    if kind == "send":
        return word[:-1] if word.endswith(letter) else word
    if kind == "take":
        return letter + word
    return word if word == "" else None


def turned_by(step, scene):
    """The least scene from which the step leads to one above the told scene, or None."""
    machine, start, kind, row, letter, end = step
    if scene[0][machine] != end:
        return None
    moved = with_stand(scene, machine, start)
    if kind == "idle":
        return moved
    word = word_before(kind, scene[1][row], letter)
    return None if word is None else with_word(moved, row, word)


def turned_low(lab, scenes):
    """What the moves tell when turned back at the scenes, but for what lies above the very scene."""
    told = []
    for scene in scenes:
        for step in lab.steps:
            low = turned_by(step, scene)
            if low is not None and not above(low, scene):
                told.append(low)
    return told


def turned(lab, place, scene):
    """The move turned back at the scene: a scene or None; BadScene, NoMove."""
    return turned_by(step_at(lab, scene, place), scene)


class Search:
    """The layers of some wishes, made one by one."""

    def __init__(self, lab, wishes, *, most=MOST_LIST):
        first = least_of(lab, wishes)
        if len(first) > most:
            raise Heavy(0)
        self.home = lab
        self.limit = most
        self.layers = [first]
        self.gained = first

    def more(self):
        """Makes the next layer and tells it; Heavy."""
        last = self.layers[-1]
        # What is turned back at scenes of earlier layers lies above the last layer already.
        fresh = not_above(turned_low(self.home, self.gained), last)
        gained = least_up_to(fresh, self.limit)
        if gained is None:
            raise Heavy(len(self.layers))
        layer = sorted(not_above(last, gained) + gained)
        if len(layer) > self.limit:
            raise Heavy(len(self.layers))
        self.layers.append(layer)
        self.gained = gained
        return list(layer)

    def layer(self, at):
        """A layer that was made; NoDeed."""
        if at < 0 or at >= len(self.layers):
            raise NoDeed()
        return list(self.layers[at])

    def since(self, scene):
        """The number of the first layer of which one lies below the scene, or None; BadScene."""
        check_scene(self.home, scene)
        for at, layer in enumerate(self.layers):
            if above_any(scene, layer):
                return at
        return None

    def __len__(self):
        return len(self.layers)
