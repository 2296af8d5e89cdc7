"""Whether a lab's runs end, each move leading to its best scene, or go on for ever."""

from leakpost.errors import Heavy
from leakpost.moves import best_after
from leakpost.scenes import above

MOST_RUN = 6
MOST_SCENES = 60


class Trail:
    """All runs from the begin, by their counts of moves.

    Each level has, of each scene to which runs of just so many moves lead, the pairs (scene ahead, place)
    by which they do; its past is a number with the bits of all scenes that stand ahead of it in one of these
    runs. By that no run is kept by itself, as there may be very many.
    """

    def __init__(self, lab):
        begin = lab.begin()
        self.steps = lab.steps
        self.levels = [{begin: []}]
        self.pasts = [{begin: 0}]
        self.bits = {begin: 1}
        self.alike = {begin[0]: [begin]}

    def grow(self):
        """Makes the next level."""
        level = {}
        past = {}
        for scene in self.levels[-1]:
            seen = self.pasts[-1][scene] | self.bits[scene]
            for place, step in enumerate(self.steps):
                after = best_after(step, scene)
                if after is not None:
                    level.setdefault(after, []).append((scene, place))
                    past[after] = past.get(after, 0) | seen
        for scene in level:
            self.number(scene)
        self.levels.append(level)
        self.pasts.append(past)

    def number(self, scene):
        """Gives the scene a bit of its own where it is new."""
        if scene not in self.bits:
            self.bits[scene] = 1 << len(self.bits)
            self.alike.setdefault(scene[0], []).append(scene)

    def low_ahead(self, scene):
        """A scene that stands ahead of this one of the last level, in a run to it, and lies below it, or None."""
        past = self.pasts[-1][scene]
        for low in self.alike[scene[0]]:
            if past & self.bits[low] and above(scene, low):
                return low
        return None

    def step_back(self, at, scene, low):
        """A pair (scene ahead, place) of a run to the scene of that level in which the low one stands ahead."""
        for ahead, place in self.levels[at][scene]:
            if ahead == low or self.pasts[at - 1][ahead] & self.bits[low]:
                return (ahead, place)
        return None

    def lead_and_ring(self, scene, low):
        """The places to the low scene, and those from it on to this one of the last level."""
        at = len(self.levels) - 1
        here, place = self.step_back(at, scene, low)
        ring = [place]
        while here != low:
            at -= 1
            here, place = self.step_back(at, here, low)
            ring.append(place)
        lead = []
        for level in self.levels[at - 1:0:-1]:
            here, place = level[here][0]
            lead.append(place)
        return (lead[::-1], ring[::-1])

    def found(self):
        """Lead and ring that have together as many moves as the last level tells, or None."""
        for scene in self.levels[-1]:
            low = self.low_ahead(scene)
            if low is not None:
                return self.lead_and_ring(scene, low)
        return None


def ends(lab, *, most=MOST_RUN):
    """("ends", many) or ("goes", lead, ring); Heavy."""
    trail = Trail(lab)
    at = 0
    while len(trail.levels[-1]) > 0:
        if len(trail.levels[-1]) > MOST_SCENES:
            raise Heavy(at)
        pair = trail.found()
        if pair is not None:
            lead, ring = pair
            return ("goes", lead, ring)
        if at == most:
            raise Heavy(at)
        trail.grow()
        at += 1
    return ("ends", at - 1)


def after_all(lab, scene, places):
    """The scene to which these moves lead, each at its best, None where one can't be done."""
    here = scene
    for place in places:
        if here is None or place < 0 or place >= len(lab.steps):
            return None
        here = best_after(lab.steps[place], here)
    return here


def shows_goes(lab, lead, ring):
    """Whether lead and ring are such that a run goes on for ever."""
    low = after_all(lab, lab.begin(), lead)
    if low is None or len(ring) == 0:
        return False
    scene = after_all(lab, low, ring)
    return scene is not None and above(scene, low)
