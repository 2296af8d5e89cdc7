"""Scenes, pairs (stands, words), and which of them lie above which."""

from leakpost.words import within


def above(one, other):
    """Whether the one scene lies above the other one, both of one lab."""
    stands, words = one
    low_stands, low_words = other
    if stands != low_stands:
        return False
    for small, great in zip(low_words, words):
        if not within(small, great):
            return False
    return True


def above_any(scene, lows):
    """Whether the scene lies above one of the low ones."""
    for low in lows:
        if above(scene, low):
            return True
    return False


def by_stands(scenes):
    """Of each stands the list of the scenes that have them."""
    groups = {}
    for scene in scenes:
        groups.setdefault(scene[0], []).append(scene)
    return groups


def not_above(scenes, lows):
    """Those of the scenes that lie above none of the low ones, in their order."""
    groups = by_stands(lows)
    return [scene for scene in scenes if not above_any(scene, groups.get(scene[0], []))]


def letters_in(scene):
    """How many letters the scene's words have together."""
    return sum([len(word) for word in scene[1]])


def least_up_to(scenes, most):
    """The least ones as a rising list, None where there are more than most of them."""
    kept = {}
    many = 0
    # A scene above another one has more letters, so by then the lower one was looked at;
    # what lies above one that was left out lies above a kept one, too.
    for scene in sorted(scenes, key=letters_in):
        alike = kept.setdefault(scene[0], [])
        if not above_any(scene, alike):
            many += 1
            if many > most:
                return None
            alike.append(scene)
    return sorted([low for lows in kept.values() for low in lows])


def least(scenes):
    """The scenes that lie above no other one of them, each once, as a rising list."""
    return least_up_to(scenes, len(scenes))
