"""Products, tuples of atoms (letters, many), each with all words that can be cut into pieces of its atoms."""

from leakpost.errors import BadAtom, BadText, BadWord
from leakpost.words import is_letter, is_word


def is_rising(text):
    """Whether the text is of small letters, each greater than the one ahead; the empty one is."""
    return is_word(text) and all([low < high for low, high in zip(text, text[1:])])


def is_atom(letters, many):
    """Whether the letters and many make an atom."""
    if letters == "" or not is_rising(letters):
        return False
    return many or len(letters) == 1


def is_product(thing):
    """Whether the thing, a tuple of pairs, is a product."""
    return all([is_atom(letters, many) for letters, many in thing])


def check_product(product):
    """Refuses BadAtom."""
    if not is_product(product):
        raise BadAtom()


def check_letter(letter):
    """Refuses BadWord."""
    if not is_letter(letter):
        raise BadWord()


def takes_in(great, small):
    """Whether the great atom is many and has all letters of the small one."""
    if not great[1]:
        return False
    # A loop, not a list of answers: covers ask this very often.
    for letter in small[0]:
        if letter not in great[0]:
            return False
    return True


def has_word(product, word):
    """Whether the word is of the product, both being what they should."""
    at = 0
    # Each atom takes as long a piece as it can: what is left then lies within all else that could be left.
    for letters, many in product:
        if many:
            while at < len(word) and word[at] in letters:
                at += 1
        elif word[at:at + 1] == letters:
            at += 1
    return at == len(word)


def holds(product, word):
    """Whether the word is of the product; BadAtom, BadWord."""
    check_product(product)
    if not is_word(word):
        raise BadWord()
    return has_word(product, word)


def lies_inside(one, other):
    """Whether all words of the one are the other's, both being products."""
    size = len(one)
    at = 0
    # Each atom of the other one takes all that it can of the next atoms of the one, a single one just its like.
    for atom in other:
        if at == size:
            return True
        if atom[1]:
            while at < size and takes_in(atom, one[at]):
                at += 1
        elif one[at] == atom:
            at += 1
    return at == size


def inside(one, other):
    """Whether all words of the one product are the other's; BadAtom."""
    check_product(one)
    check_product(other)
    return lies_inside(one, other)


def made_plain(atoms):
    """The plain product with the words of these atoms."""
    kept = []
    for atom in atoms:
        while kept and takes_in(atom, kept[-1]):
            kept.pop()
        if not kept or not takes_in(kept[-1], atom):
            kept.append(atom)
    return tuple(kept)


def plain(product):
    """The plain product with the same words; BadAtom."""
    check_product(product)
    return made_plain(product)


def with_letter(product, letter):
    """The plain product with the letter behind the words of this one."""
    return made_plain(product + ((letter, False),))


def sent(product, letter):
    """The product with the letter sent behind its words, plain; BadAtom, BadWord."""
    check_product(product)
    check_letter(letter)
    return with_letter(product, letter)


def left_behind(product, letter):
    """The plain product of what is left behind such a letter, or None."""
    for at, (letters, many) in enumerate(product):
        if letter in letters:
            # A many atom may hold letters behind the one that is taken, too.
            return made_plain(product[at:] if many else product[at + 1:])
    return None


def taken(product, letter):
    """What is left of the product behind such a letter, plain, or None; BadAtom, BadWord."""
    check_product(product)
    check_letter(letter)
    return left_behind(product, letter)


def with_any(product, letters):
    """The plain product with any word of the letters, a rising text, behind the words of this one."""
    return made_plain(product + ((letters, True),)) if letters else made_plain(product)


def swollen(product, letters):
    """The product with any word of the letters behind its words, plain; BadAtom, BadWord."""
    check_product(product)
    if not is_rising(letters):
        raise BadWord()
    return with_any(product, letters)


def product_of(word):
    """The product that has the word and what lies within it; BadWord."""
    if not is_word(word):
        raise BadWord()
    return tuple([(letter, False) for letter in word])


def product_text(product):
    """The product in writing; BadAtom."""
    check_product(product)
    if len(product) == 0:
        return "-"
    return " ".join([letters + "*" if many else letters for letters, many in product])


def atom_of(text):
    """The pair that the text writes, be it an atom or not."""
    return (text[:-1], True) if text.endswith("*") else (text, False)


def read_product(text):
    """The product that the text writes; BadText."""
    if text == "-":
        return ()
    product = tuple([atom_of(piece) for piece in text.split(" ")])
    if not is_product(product):
        raise BadText(0)
    return product
