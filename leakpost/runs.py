"""Runs, lists of deeds ("move", place) and ("leak", row, at)."""

from leakpost.errors import NoMove
from leakpost.moves import best_after, check_scene, done_after, leak_after


def first_scene(lab, scene):
    """The told scene, or the begin where none is told; BadScene."""
    if scene is None:
        return lab.begin()
    check_scene(lab, scene)
    return scene


def after_deed(lab, scene, deed):
    """The scene behind the deed, None where it can't be done."""
    if deed[0] == "move":
        place = deed[1]
        return done_after(lab.steps[place], scene) if 0 <= place < len(lab.steps) else None
    row = lab.row_places.get(deed[1])
    return None if row is None else leak_after(scene, row, deed[2])


def play(lab, run, *, scene=None):
    """The scenes from the told one on, one more than deeds; BadScene, NoMove."""
    scenes = [first_scene(lab, scene)]
    for at, deed in enumerate(run):
        after = after_deed(lab, scenes[-1], deed)
        if after is None:
            raise NoMove(at)
        scenes.append(after)
    return scenes


def count(run):
    """How many moves the run has."""
    return len([deed for deed in run if deed[0] == "move"])


def leaks_ahead(step, scene):
    """How many letters leak out of the step's row, from its first one on, ahead of the step at its best."""
    machine, start, kind, row, letter, end = step
    if kind == "take":
        return scene[1][row].find(letter)
    return len(scene[1][row]) if kind == "bare" else 0


def best_run(lab, places, *, scene=None):
    """The run that does these moves, each to its best scene; BadScene, NoMove."""
    here = first_scene(lab, scene)
    run = []
    for at, place in enumerate(places):
        if place < 0 or place >= len(lab.steps):
            raise NoMove(at)
        step = lab.steps[place]
        after = best_after(step, here)
        if after is None:
            raise NoMove(at)
        for leak in range(leaks_ahead(step, here)):
            run.append(("leak", lab.row_pairs[step[3]][0], 0))
        run.append(("move", place))
        here = after
    return run
