"""Covers: parts, pairs (stands, products), that together have just the scenes that can come."""

from leakpost.back import MOST_DEEP, MOST_LIST
from leakpost.errors import Heavy
from leakpost.moves import with_stand, with_word
from leakpost.products import has_word, left_behind, lies_inside, product_of, with_any, with_letter
from leakpost.scenes import by_stands
from leakpost.wishes import check_wish


def product_after(kind, product, letters):
    """What an act, or swelling, makes of a row's product, None where no word of it lets the act be done."""
    if kind == "send":
        return with_letter(product, letters)
    if kind == "take":
        return left_behind(product, letters)
    if kind == "swell":
        return with_any(product, letters)
    return ()


def loop_letters(lab, stands, row):
    """The letters, rising, that can be sent into the row again and again at these stands."""
    found = []
    for machine, start, kind, into, letter, end in lab.steps:
        if kind == "send" and into == row and start == end and stands[machine] == start:
            found.append(letter)
    return "".join(sorted(set(found)))


class Shelf:
    """The products of a lab's parts, by numbers, and what was found out of them.

    The same products come up in very many parts and rounds, and may be long; so what becomes of one, and which
    lies in which, is worked out once. Parts are here pairs (stands, numbers).
    """

    def __init__(self, lab):
        self.home = lab
        self.numbers = {}
        self.products = []
        self.made = {}
        self.inner = {}
        self.loops = {}

    def put(self, part):
        """The part with numbers for its products."""
        return (part[0], tuple([self.number(product) for product in part[1]]))

    def get_back(self, part):
        """The part with its products."""
        return (part[0], tuple([self.products[at] for at in part[1]]))

    def number(self, product):
        """The product's number, a new one where it is new."""
        if product not in self.numbers:
            self.numbers[product] = len(self.products)
            self.products.append(product)
        return self.numbers[product]

    def after(self, kind, at, letters):
        """The number of what an act, or swelling, makes of the product, or None."""
        key = (kind, at, letters)
        if key not in self.made:
            product = product_after(kind, self.products[at], letters)
            self.made[key] = None if product is None else self.number(product)
        return self.made[key]

    def is_inside(self, small, great):
        """Whether the product of the one number lies in that of the other one."""
        key = (small, great)
        if key not in self.inner:
            self.inner[key] = lies_inside(self.products[small], self.products[great])
        return self.inner[key]

    def part_after(self, step, part):
        """What the step makes of the part, nothing swollen, or None."""
        machine, start, kind, row, letter, end = step
        if part[0][machine] != start:
            return None
        # A part is a pair like a scene, with numbers for words.
        moved = with_stand(part, machine, end)
        if kind == "idle":
            return moved
        at = self.after(kind, part[1][row], letter)
        return None if at is None else with_word(moved, row, at)

    def parts_after(self, part):
        """All that the moves make of the part, nothing swollen."""
        made = [self.part_after(step, part) for step in self.home.steps]
        return [one for one in made if one is not None]

    def swell(self, part):
        """The part with each row's product swollen."""
        stands, held = part
        if stands not in self.loops:
            self.loops[stands] = [loop_letters(self.home, stands, row) for row in range(len(held))]
        letters = self.loops[stands]
        return (stands, tuple([self.after("swell", at, letters[row]) for row, at in enumerate(held)]))

    def lies_in_any(self, part, others):
        """Whether the part lies in one of the others, all with the same stands."""
        for other in others:
            if self.lies_in(part, other):
                return True
        return False

    def lies_in(self, one, other):
        """Whether the one part lies in the other one, both with the same stands."""
        for small, great in zip(one[1], other[1]):
            if small != great and not self.is_inside(small, great):
                return False
        return True

    def outside(self, parts, others):
        """Those of the parts that lie in none of the others, in their order."""
        groups = by_stands(others)
        return [part for part in parts if not self.lies_in_any(part, groups.get(part[0], []))]

    def greatest(self, parts):
        """The parts, each once, that lie in no other one of them."""
        kept = {}
        for part in parts:
            alike = kept.get(part[0], [])
            if not self.lies_in_any(part, alike):
                kept[part[0]] = [one for one in alike if not self.lies_in(one, part)] + [part]
        return [part for alike in kept.values() for part in alike]

    def gained_after(self, gained, parts):
        """What the next round has that lies in none of this round's parts, gained being the new ones of these."""
        made = {}
        # What the moves make of parts of earlier rounds lies in this round's parts already.
        for part in gained:
            for one in self.parts_after(part):
                made[self.swell(one)] = True
        return self.greatest(self.outside(list(made), parts))


def cover(lab, *, most=MOST_LIST, deep=MOST_DEEP):
    """The parts, rising, that together have just the scenes that can come; Heavy."""
    shelf = Shelf(lab)
    stands, words = lab.begin()
    parts = [shelf.swell(shelf.put((stands, [product_of(word) for word in words])))]
    gained = parts
    at = 0
    while gained:
        if len(parts) > most or at == deep:
            raise Heavy(at)
        gained = shelf.gained_after(gained, parts)
        parts = shelf.outside(parts, gained) + gained
        at += 1
    return sorted([shelf.get_back(part) for part in parts])


def has_scene(part, scene):
    """Whether the scene is one of the part's."""
    if part[0] != scene[0]:
        return False
    return all([has_word(product, word) for product, word in zip(part[1], scene[1])])


def shuts(lab, parts):
    """Whether the parts have the begin, and all that the moves make of them lies in one of them."""
    begin = lab.begin()
    if not any([has_scene(part, begin) for part in parts]):
        return False
    shelf = Shelf(lab)
    held = [shelf.put(part) for part in parts]
    for part in held:
        if shelf.outside(shelf.parts_after(part), held):
            return False
    return True


def may_grant(lab, wish, part):
    """Whether a scene of the part grants the wish."""
    for machine, stand in wish[0]:
        if part[0][lab.machine_places[machine]] != stand:
            return False
    # With a word a product has all that lie within it, so just the wished word has to be of it.
    for row, word in wish[1]:
        if not has_word(part[1][lab.row_places[row]], word):
            return False
    return True


def lets(lab, wishes, parts):
    """Whether a scene of one of the parts grants one of the wishes; BadWish."""
    for wish in wishes:
        check_wish(lab, wish)
    for wish in wishes:
        for part in parts:
            if may_grant(lab, wish, part):
                return True
    return False
