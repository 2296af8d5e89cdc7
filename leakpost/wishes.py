"""Wishes, pairs of tuples ((machine, stand), ..) and ((row, word), ..), and the scenes that grant them."""

from leakpost.errors import BadWish
from leakpost.lab import is_short_word
from leakpost.moves import check_scene
from leakpost.scenes import least
from leakpost.words import is_name, within


def check_names(names, places):
    """Refuses BadWish where a name has no place or stands there twice."""
    for name in names:
        if name not in places:
            raise BadWish()
    if len(set(names)) != len(names):
        raise BadWish()


def check_wish(lab, wish):
    """Refuses BadWish."""
    stands, words = wish
    check_names([machine for machine, stand in stands], lab.machine_places)
    check_names([row for row, word in words], lab.row_places)
    if not all([is_name(stand) for machine, stand in stands]):
        raise BadWish()
    if not all([is_short_word(word) for row, word in words]):
        raise BadWish()


def grants(lab, wish, scene):
    """Whether the scene grants the wish; BadWish, BadScene."""
    check_wish(lab, wish)
    check_scene(lab, scene)
    for machine, stand in wish[0]:
        if scene[0][lab.machine_places[machine]] != stand:
            return False
    for row, word in wish[1]:
        if not within(word, scene[1][lab.row_places[row]]):
            return False
    return True


def stand_choices(lab, wanted):
    """For each machine the list of its stands that the wanted pairs let it be at."""
    asked = {machine: stand for machine, stand in wanted}
    choices = []
    for machine, first in lab.machines():
        stands = lab.stands(machine)
        choices.append([stand for stand in stands if asked.get(machine, stand) == stand])
    return choices


def all_of(choices):
    """All tuples that have one thing of each choice."""
    found = [()]
    for choice in choices:
        found = [ahead + (thing,) for ahead in found for thing in choice]
    return found


def least_for(lab, wish):
    """The least scenes that grant one wish, in any order."""
    asked = {row: word for row, word in wish[1]}
    words = tuple([asked.get(row, "") for row, word in lab.rows()])
    return [(stands, words) for stands in all_of(stand_choices(lab, wish[0]))]


def least_of(lab, wishes):
    """The least of all scenes that grant one of the wishes, rising; BadWish."""
    for wish in wishes:
        check_wish(lab, wish)
    return least([scene for wish in wishes for scene in least_for(lab, wish)])
