"""Crossed foldings: two stretches of pairs, one behind the other in each, that cross."""

from pairfolds.least import least_worth
from pairfolds.loops import loop_worths
from pairfolds.rules import is_row, is_whole, pair_worth, stack_worth
from pairfolds.strings import may_pair, text_of


def stretch_pairs(stretch):
    i, j, size = stretch
    return [(i + at, j - at) for at in range(size)]


def is_stretch(rules, string, thing):
    """Whether it is a stretch of the string, whatever it is."""
    if not is_row(thing, 3) or not all([is_whole(part) for part in thing]):
        return False
    # A size that the places do not hold may be too great to be gone through.
    if not 1 <= thing[2] <= len(string):
        return False
    return all([may_pair(rules, string, i, j) for i, j in stretch_pairs(thing)])


def do_cross(stretch, other):
    i, j, size = stretch
    p, q, many = other
    return i + size - 1 < p and p + many - 1 < j - size + 1 and j < q - many + 1


def is_crossed(rules, string, thing):
    """Whether it is a crossed folding of the string, whatever it is."""
    if not is_row(thing, 2) or not all([is_stretch(rules, string, part) for part in thing]):
        return False
    return do_cross(thing[0], thing[1])


def stretch_worth(rules, string, stretch):
    texts = [text_of(string, pair) for pair in stretch_pairs(stretch)]
    stacked = loop_worths(rules)["stacked"]
    neighbours = [stacked + stack_worth(rules, outer, within) for outer, within in zip(texts, texts[1:])]
    return sum([pair_worth(rules, text) for text in texts]) + sum(neighbours)


def crossed_worth(rules, string, folding, *, cross=0):
    """The worth of a crossed folding: its pairs, its neighbours, and cross."""
    return cross + sum([stretch_worth(rules, string, stretch) for stretch in folding])


def stretches_at(rules, string, i, j):
    """All stretches that begin with the pair (i, j)."""
    found = []
    size = 1
    while may_pair(rules, string, i + size - 1, j - size + 1):
        found.append((i, j, size))
        size += 1
    return found


def all_stretches(rules, string):
    """All stretches of the string, rising."""
    places = list(range(len(string)))
    return [stretch for i in places for j in places for stretch in stretches_at(rules, string, i, j)]


def all_crossed(rules, string, *, cross=0):
    """All crossed foldings of the string as tuples (worth, folding), rising."""
    stretches = all_stretches(rules, string)
    worths = {stretch: stretch_worth(rules, string, stretch) for stretch in stretches}
    found = []
    for stretch in stretches:
        for other in stretches:
            if do_cross(stretch, other):
                found.append((worths[stretch] + worths[other] + cross, (stretch, other)))
    return sorted(found)


def least_crossed(rules, string, *, cross=0):
    """The first tuple (worth, folding) of all crossed foldings, None where there is none."""
    found = all_crossed(rules, string, cross=cross)
    return found[0] if found else None


def crossing_wins(rules, string, *, cross=0):
    """Whether a crossed folding is worth less than each one that does not cross."""
    least = least_crossed(rules, string, cross=cross)
    return least is not None and least[0] < least_worth(rules, string)
