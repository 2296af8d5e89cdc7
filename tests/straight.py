"""What the document says, written out straight, and labs to try it on."""

import itertools
import random
import re

from leakpost.back import turned
from leakpost.lab import Lab

# One lab for most tests: two machines, two rows, a move of each act and more.
MACHINES = [("left", "go"), ("right", "stop")]
ROWS = [("road", "ab"), ("back", "")]
MOVES = [
    ("left", "go", ("send", "road", "a"), "wait"),
    ("left", "wait", ("take", "back", "b"), "go"),
    ("right", "stop", ("take", "road", "a"), "run"),
    ("right", "run", ("send", "back", "b"), "stop"),
    ("right", "run", ("bare", "road"), "end"),
    ("left", "wait", ("idle",), "go"),
]


def post():
    """The lab for most tests."""
    return Lab(MACHINES, ROWS, MOVES)


def in_word(small, great):
    """Whether some letters struck out of the great word leave the small one."""
    rest = iter(great)
    return all(letter in rest for letter in small)


def lies_above(one, other):
    """Whether the one scene lies above the other one."""
    return one[0] == other[0] and all(in_word(small, great) for small, great in zip(other[1], one[1]))


def least_as_told(scenes):
    """The scenes that lie above no other one of them, each once, rising."""
    unlike = set(scenes)
    return sorted(one for one in unlike if not any(other != one and lies_above(one, other) for other in unlike))


def subwords(word):
    """All words that lie within the word."""
    return {"".join(kept) for many in range(len(word) + 1) for kept in itertools.combinations(word, many)}


def lower(scene):
    """All scenes that are left of the scene when letters leak, itself too."""
    return {(scene[0], words) for words in itertools.product(*[sorted(subwords(word)) for word in scene[1]])}


def moved(lab, scene, place):
    """The scene behind the move, None where it can't be done as the scene is."""
    machine, start, act, end = lab.moves()[place]
    stands = dict(zip([name for name, first in lab.machines()], scene[0]))
    words = dict(zip([name for name, word in lab.rows()], scene[1]))
    if stands[machine] != start:
        return None
    stands[machine] = end
    if act[0] == "send":
        words[act[1]] += act[2]
    if act[0] == "take":
        if words[act[1]][:1] != act[2]:
            return None
        words[act[1]] = words[act[1]][1:]
    if act[0] == "bare" and words[act[1]]:
        return None
    return (tuple(stands.values()), tuple(words.values()))


def leads(lab, scene, place):
    """All scenes to which the move leads where letters may leak ahead of it."""
    return {moved(lab, low, place) for low in lower(scene)} - {None}


def best_as_told(lab, scene, place):
    """The one of these that lies above all of them, or None."""
    led = leads(lab, scene, place)
    high = [one for one in led if all(lies_above(one, other) for other in led)]
    assert len(high) == (1 if led else 0)
    return high[0] if high else None


def granted(lab, wish, scene):
    """Whether the scene grants the wish."""
    stands = dict(zip([name for name, first in lab.machines()], scene[0]))
    words = dict(zip([name for name, word in lab.rows()], scene[1]))
    return (all(stands[machine] == stand for machine, stand in wish[0])
            and all(in_word(word, words[row]) for row, word in wish[1]))


def next_layer(lab, layer):
    """The layer behind the told one."""
    told = [turned(lab, place, scene) for scene in layer for place in range(len(lab))]
    return least_as_told(layer + [scene for scene in told if scene is not None])


def fewest(lab, wishes, many):
    """The fewest moves, up to many, by which one of the wishes comes from the begin, or None."""
    level = lower(lab.begin())
    for at in range(many + 1):
        if any(granted(lab, wish, scene) for wish in wishes for scene in level):
            return at
        told = {moved(lab, scene, place) for scene in level for place in range(len(lab))} - {None}
        level = {low for scene in told for low in lower(scene)}
    return None


def is_of(product, word):
    """Whether the word can be cut into pieces of the atoms."""
    cut = "".join(f"[{letters}]*" if many else f"{letters}?" for letters, many in product)
    return re.fullmatch(cut, word) is not None


def lies_in(one, other):
    """Whether all words of the one are the other's.

    Of a many atom each letter stands in the tried word so often that some atom of the other one has to take
    all of them twice, and so takes any more of them, too.
    """
    tried = "".join(letters * (len(other) + 1) if many else letters for letters, many in one)
    return is_of(other, tried)


def is_plain(product):
    """Whether no neighbour is taken in by the other one."""
    for one, other in zip(product, product[1:]):
        for small, great in ((one, other), (other, one)):
            if great[1] and set(small[0]) <= set(great[0]):
                return False
    return True


def any_lab(seed, *, moves=6, letters="ab", stands="pqr", most_word=3, most=2):
    """A lab that the seed alone tells, of at most so many machines and so many rows."""
    chance = random.Random(seed)
    machines = [(name, chance.choice(stands)) for name in ("one", "two", "three")[:chance.randint(1, most)]]
    rows = [(name, "".join(chance.choices(letters, k=chance.randint(0, most_word))))
            for name in ("in", "out", "by")[:chance.randint(1, most)]]
    told = []
    for each in range(moves):
        row, letter = chance.choice(rows)[0], chance.choice(letters)
        act = chance.choice([("send", row, letter), ("take", row, letter), ("bare", row), ("idle",)])
        told.append((chance.choice(machines)[0], chance.choice(stands), act, chance.choice(stands)))
    return Lab(machines, rows, told)


def any_wishes(lab, seed, *, letters="ab", most_word=2):
    """Some wishes for the lab, that the seed alone tells."""
    chance = random.Random(seed)
    wishes = []
    for each in range(chance.randint(1, 2)):
        stands = [(name, chance.choice(lab.stands(name))) for name, first in lab.machines() if chance.random() < 0.8]
        words = [(name, "".join(chance.choices(letters, k=chance.randint(0, most_word))))
                 for name, word in lab.rows() if chance.random() < 0.7]
        wishes.append((tuple(stands), tuple(words)))
    return wishes


def all_scenes(lab, *, letters="ab", long=2):
    """All scenes of the lab with words of at most so many letters."""
    words = ["".join(signs) for many in range(long + 1) for signs in itertools.product(letters, repeat=many)]
    stands = [lab.stands(name) for name, first in lab.machines()]
    return [(at, held) for at in itertools.product(*stands)
            for held in itertools.product(words, repeat=len(lab.rows()))]


def any_body(seed, *, rows=("in", "out"), letters="ab", most=24, deep=6):
    """A body that the seed alone tells."""
    chance = random.Random(seed)

    def grown(parts, left):
        if parts >= 3 and left > 1 and chance.random() < 0.8:
            cut = chance.randint(1, parts - 2)
            return (chance.choice(("then", "or")), grown(cut, left - 1), grown(parts - 1 - cut, left - 1))
        if parts >= 2 and left > 1 and chance.random() < 0.8:
            return ("again", grown(parts - 1, left - 1))
        row, letter = chance.choice(rows), chance.choice(letters)
        return chance.choice([("send", row, letter), ("take", row, letter), ("bare", row), ("skip",)])

    return grown(chance.randint(1, most), deep)
