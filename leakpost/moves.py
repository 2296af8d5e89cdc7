"""Moves and leaks: what can be done in a scene, and where it leads."""

from leakpost.errors import BadScene, NoLetter, NoMove, NoRow
from leakpost.words import behind


def check_scene(lab, scene):
    """Refuses BadScene."""
    if not lab.has(scene):
        raise BadScene()


def step_at(lab, scene, place):
    """The step of the move at the place; BadScene, NoMove."""
    check_scene(lab, scene)
    if place < 0 or place >= len(lab.steps):
        raise NoMove()
    return lab.steps[place]


def with_word(scene, row, word):
    """The scene with another word in the row."""
    stands, words = scene
    return (stands, words[:row] + (word,) + words[row + 1:])


def with_stand(scene, machine, stand):
    """The scene with the machine at another stand."""
    stands, words = scene
    return (stands[:machine] + (stand,) + stands[machine + 1:], words)


def is_ready(step, scene):
    """Whether the step can be done in the scene with no leak ahead of it."""
    machine, start, kind, row, letter, end = step
    stands, words = scene
    if stands[machine] != start:
        return False
    if kind == "take":
        return words[row].startswith(letter)
    return kind != "bare" or words[row] == ""


def word_after(kind, word, letter):
    """What an act at its best leaves of a row's word, None where it can't be done."""
    if kind == "send":
        return word + letter
    if kind == "take":
        return behind(word, letter)
    return ""


def best_after(step, scene):
    """The best scene to which the step leads, None where it can't be done whatever leaks."""
    machine, start, kind, row, letter, end = step
    if scene[0][machine] != start:
        return None
    moved = with_stand(scene, machine, end)
    if kind == "idle":
        return moved
    word = word_after(kind, scene[1][row], letter)
    return None if word is None else with_word(moved, row, word)


def done_after(step, scene):
    """The scene behind the step, None where it can't be done as the scene is."""
    # Where nothing has to leak ahead, the best scene is the only one to which the step leads.
    return best_after(step, scene) if is_ready(step, scene) else None


def leak_after(scene, row, at):
    """The scene with the row's letter at that place gone, None where there is no such letter."""
    word = scene[1][row]
    if at < 0 or at >= len(word):
        return None
    return with_word(scene, row, word[:at] + word[at + 1:])


def can(lab, scene, place):
    """Whether the move can be done in the scene; BadScene, NoMove."""
    return is_ready(step_at(lab, scene, place), scene)


def done(lab, scene, place):
    """The scene behind the move; BadScene, NoMove."""
    after = done_after(step_at(lab, scene, place), scene)
    if after is None:
        raise NoMove()
    return after


def best(lab, scene, place):
    """The best scene to which the move leads, or None; BadScene, NoMove."""
    return best_after(step_at(lab, scene, place), scene)


def ways(lab, scene):
    """The places, rising, of the moves that can be done if enough leaks; BadScene."""
    check_scene(lab, scene)
    return [place for place, step in enumerate(lab.steps) if best_after(step, scene) is not None]


def leaked(lab, scene, row, at):
    """The scene with the row's letter at that place gone; BadScene, NoRow, NoLetter."""
    check_scene(lab, scene)
    if row not in lab.row_places:
        raise NoRow()
    after = leak_after(scene, lab.row_places[row], at)
    if after is None:
        raise NoLetter()
    return after
