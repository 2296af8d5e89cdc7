"""Names, letters and words, and how one word lies within another one."""

LETTERS = "abcdefghijklmnopqrstuvwxyz"
MOST_NAME = 8


def is_word(text):
    """Whether the text has small letters only; the empty one is a word."""
    return all([sign in LETTERS for sign in text])


def is_name(text):
    """Whether the text is a word of 1 to 8 letters."""
    return 1 <= len(text) <= MOST_NAME and is_word(text)


def is_letter(text):
    """Whether the text is one small letter."""
    return len(text) == 1 and is_word(text)


def spots(small, great):
    """The smallest places at which the small word's letters stand in the great one, or None."""
    places = []
    at = -1
    for letter in small:
        # Taking each letter as early as can be leaves the most room for those behind it.
        at = great.find(letter, at + 1)
        if at < 0:
            return None
        places.append(at)
    return places


def within(small, great):
    """Whether the small word is left of the great one when some letters are struck out."""
    if len(small) > len(great):
        return False
    at = 0
    # As spots does, but without its list: searches ask this very often.
    for letter in small:
        at = great.find(letter, at) + 1
        if at == 0:
            return False
    return True


def behind(word, letter):
    """What stands behind the first such letter of the word, None where there is none."""
    for at, sign in enumerate(word):
        if sign == letter:
            return word[at + 1:]
    return None
