"""Covers: parts, pairs (stands, products), that together have just the scenes that can come."""

from leakpost.back import MOST_DEEP, MOST_LIST
from leakpost.errors import Heavy
from leakpost.moves import with_stand, with_word
from leakpost.products import has_word, left_behind, lies_inside, product_of, with_any, with_letter
from leakpost.scenes import by_stands
from leakpost.wishes import check_wish


def product_after(kind, product, letter):
    """What an act makes of a row's product, None where no word of it lets the act be done."""
    if kind == "send":
        return with_letter(product, letter)
    if kind == "take":
        return left_behind(product, letter)
    return ()


def part_after(step, part):
    """What the step makes of the part, nothing swollen, or None."""
    machine, start, kind, row, letter, end = step
    if part[0][machine] != start:
        return None
    # A part is a pair like a scene, with products for words.
    moved = with_stand(part, machine, end)
    if kind == "idle":
        return moved
    product = product_after(kind, part[1][row], letter)
    return None if product is None else with_word(moved, row, product)


def parts_after(lab, part):
    """All that the moves make of the part, nothing swollen."""
    made = [part_after(step, part) for step in lab.steps]
    return [one for one in made if one is not None]


def loop_letters(lab, stands, row):
    """The letters, rising, that can be sent into the row again and again at these stands."""
    found = []
    for machine, start, kind, into, letter, end in lab.steps:
        if kind == "send" and into == row and start == end and stands[machine] == start:
            found.append(letter)
    return "".join(sorted(set(found)))


def swell(lab, part):
    """The part with each row's product swollen."""
    stands, products = part
    return (stands, tuple([with_any(product, loop_letters(lab, stands, row))
                           for row, product in enumerate(products)]))


def lies_in(one, other):
    """Whether the one part lies in the other one, both with the same stands."""
    for small, great in zip(one[1], other[1]):
        if not lies_inside(small, great):
            return False
    return True


def lies_in_any(part, others):
    """Whether the part lies in one of the others, all with the same stands."""
    for other in others:
        if lies_in(part, other):
            return True
    return False


def outside(parts, others):
    """Those of the parts that lie in none of the others, in their order."""
    groups = by_stands(others)
    return [part for part in parts if not lies_in_any(part, groups.get(part[0], []))]


def greatest(parts):
    """The parts, each once, that lie in no other one of them."""
    kept = {}
    for part in parts:
        alike = kept.get(part[0], [])
        if not lies_in_any(part, alike):
            kept[part[0]] = [one for one in alike if not lies_in(one, part)] + [part]
    return [part for alike in kept.values() for part in alike]


def gained_after(lab, gained, parts):
    """The parts that the next round has and that lie in none of this round's parts, gained being its new ones."""
    made = {}
    # What the moves make of parts of earlier rounds lies in this round's parts already.
    for part in gained:
        for one in parts_after(lab, part):
            made[one] = True
    swelled = [swell(lab, one) for one in made]
    return greatest(outside(swelled, parts))


def cover(lab, *, most=MOST_LIST, deep=MOST_DEEP):
    """The parts, rising, that together have just the scenes that can come; Heavy."""
    stands, words = lab.begin()
    parts = [swell(lab, (stands, tuple([product_of(word) for word in words])))]
    gained = parts
    at = 0
    while gained:
        if len(parts) > most or at == deep:
            raise Heavy(at)
        gained = gained_after(lab, gained, parts)
        parts = outside(parts, gained) + gained
        at += 1
    return sorted(parts)


def has_scene(part, scene):
    """Whether the scene is one of the part's."""
    if part[0] != scene[0]:
        return False
    return all([has_word(product, word) for product, word in zip(part[1], scene[1])])


def shuts(lab, parts):
    """Whether the parts have the begin, and all that the moves make of them lies in one of them."""
    begin = lab.begin()
    if not any([has_scene(part, begin) for part in parts]):
        return False
    for part in parts:
        if outside(parts_after(lab, part), parts):
            return False
    return True


def may_grant(lab, wish, part):
    """Whether a scene of the part grants the wish."""
    for machine, stand in wish[0]:
        if part[0][lab.machine_places[machine]] != stand:
            return False
    # With a word a product has all that lie within it, so just the wished word has to be of it.
    for row, word in wish[1]:
        if not has_word(part[1][lab.row_places[row]], word):
            return False
    return True


def lets(lab, wishes, parts):
    """Whether a scene of one of the parts grants one of the wishes; BadWish."""
    for wish in wishes:
        check_wish(lab, wish)
    for wish in wishes:
        for part in parts:
            if may_grant(lab, wish, part):
                return True
    return False
