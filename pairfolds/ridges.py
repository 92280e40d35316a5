"""Steps from folding to folding by single pairs, and ways between two that go as low as can be."""

from pairfolds.foldings import is_folding
from pairfolds.loops import worth_of
from pairfolds.strings import may_pair


def steps_from(rules, string, folding):
    """All foldings with one pair more or less, as they rise."""
    fewer = [tuple([pair for pair in folding if pair != left]) for left in folding]
    taken = [place for pair in folding for place in pair]
    # Pairs of free places alone are tried: most others fall away so at little cost.
    free = [place for place in range(len(string)) if place not in taken]
    more = [tuple(sorted(folding + ((i, j),))) for i in free for j in free if may_pair(rules, string, i, j)]
    return sorted(fewer + [made for made in more if is_folding(rules, string, made)])


def way_back(came, folding):
    """The way to the folding, by a dict of where each was come to from."""
    way = [folding]
    while came[way[-1]] is not None:
        way.append(came[way[-1]])
    return way[::-1]


def lowest_way(rules, string, folding, other):
    """A way with the lowest ridge: of all that steps lead to, the lowest is always gone to first."""
    came = {folding: None}
    now = folding
    waiting = []
    while now != other:
        for after in steps_from(rules, string, now):
            if after not in came:
                came[after] = now
                waiting.append((worth_of(rules, string, after), after))
        lowest = min(waiting)
        waiting.remove(lowest)
        now = lowest[1]
    return way_back(came, other)


def ridge(rules, string, folding, other):
    """A tuple (ridge, way): the lowest ridge between two foldings, and a way with it."""
    way = lowest_way(rules, string, folding, other)
    return max([worth_of(rules, string, met) for met in way]), way


def is_step(folding, other):
    """Whether one of the two foldings has one pair more than the other, and all of its pairs."""
    fewer = folding if len(folding) < len(other) else other
    more = other if len(folding) < len(other) else folding
    return len(more) == len(fewer) + 1 and all([pair in more for pair in fewer])


def lets_way(rules, string, folding, other, thing):
    """Whether it is a way from a folding to another one, whatever it is."""
    if not isinstance(thing, list) or not thing:
        return False
    if not all([is_folding(rules, string, met) for met in thing]):
        return False
    if thing[0] != folding or thing[-1] != other:
        return False
    return all([is_step(met, after) for met, after in zip(thing, thing[1:])])
