"""Scenes, pairs (stands, words), and which of them lie above which."""

from leakpost.words import within


def above(one, other):
    """Whether the one scene lies above the other one, both of one lab."""
    stands, words = one
    low_stands, low_words = other
    if stands != low_stands:
        return False
    for small, great in zip(low_words, words):
        if not within(small, great):
            return False
    return True


def above_any(scene, lows):
    """Whether the scene lies above one of the low ones."""
    for low in lows:
        if above(scene, low):
            return True
    return False


def letters_in(scene):
    """How many letters the scene's words have together."""
    return sum([len(word) for word in scene[1]])


def least(scenes):
    """The scenes that lie above no other one of them, each once, as a rising list."""
    kept = {}
    # A scene above another one has more letters, so by then the lower one was looked at;
    # what lies above one that was left out lies above a kept one, too.
    for scene in sorted(scenes, key=letters_in):
        alike = kept.setdefault(scene[0], [])
        if not above_any(scene, alike):
            alike.append(scene)
    return sorted([low for lows in kept.values() for low in lows])
