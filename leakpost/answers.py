"""Papers: ("comes", run) or ("never", scenes), searched for and looked through."""

from leakpost.back import MOST_DEEP, MOST_LIST, Search, turned_low
from leakpost.errors import Heavy, NoMove
from leakpost.moves import best_after
from leakpost.runs import best_run, play
from leakpost.scenes import above_any, not_above
from leakpost.wishes import least_of


def place_towards(lab, scene, layer):
    """The first move that leads at its best from the scene to one above one of the layer."""
    for place, step in enumerate(lab.steps):
        after = best_after(step, scene)
        if after is not None and above_any(after, layer):
            return place
    return None


def run_down(lab, search, many):
    """A run of so many moves from the begin down the layers, of which the begin lies above number many."""
    scene = lab.begin()
    places = []
    for at in range(many - 1, -1, -1):
        place = place_towards(lab, scene, search.layer(at))
        places.append(place)
        scene = best_after(lab.steps[place], scene)
    return best_run(lab, places)


def answer(lab, wishes, *, most=MOST_LIST, deep=MOST_DEEP):
    """The paper that tells whether the wishes come; BadWish, Heavy."""
    search = Search(lab, wishes, most=most)
    begin = lab.begin()
    last = None
    layer = search.layer(0)
    at = 0
    while not above_any(begin, layer):
        if layer == last:
            return ("never", layer)
        if at == deep:
            raise Heavy(at)
        last = layer
        layer = search.more()
        at += 1
    return ("comes", run_down(lab, search, at))


def is_good_run(lab, lows, run):
    """Whether the run can be done from the begin and leads to a scene above one of the low ones."""
    try:
        scenes = play(lab, run)
    except NoMove:
        return False
    return above_any(scenes[-1], lows)


def are_good_scenes(lab, lows, scenes):
    """Whether the scenes keep the begin out, and have the low ones and all that leads to them above them."""
    if not all([lab.has(scene) for scene in scenes]):
        return False
    if above_any(lab.begin(), scenes):
        return False
    return not not_above(lows + turned_low(lab, scenes), scenes)


def shows(lab, wishes, paper):
    """Whether the paper is good; BadWish."""
    lows = least_of(lab, wishes)
    kind, told = paper
    if kind == "comes":
        return is_good_run(lab, lows, told)
    return are_good_scenes(lab, lows, told)
