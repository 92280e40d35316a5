"""Holds: places that stay free and pairs that stand, and the least folding of those that keep them.

Pairs with a place that is held otherwise are left out, and a held pair is taken for worth so much less that no least
folding goes without it. So a table by the pairs that are left leads to a least folding that keeps the holds.
"""

from pairfolds.foldings import is_folding
from pairfolds.quick import QuickTable
from pairfolds.rules import is_row, is_whole, rises
from pairfolds.strings import text_of

# More than the worths of any two foldings of a string lie apart.
HELD = 1000000


def are_places(string, thing):
    """Whether it is a rising tuple of places, whatever it is."""
    if not isinstance(thing, tuple) or not all([is_whole(place) for place in thing]):
        return False
    return all([0 <= place < len(string) for place in thing]) and rises(thing)


def places_in(pairs):
    return [place for pair in pairs for place in pair]


def keeps_free(folding, places):
    """Whether none of the places is in a pair of the folding."""
    return all([place not in places for place in places_in(folding)])


def can_be_kept(rules, string, holds):
    """Whether a folding keeps the holds: where one does, their pairs do so themselves."""
    free, pairs = holds
    return pairs == () or (is_folding(rules, string, pairs) and keeps_free(pairs, free))


def are_holds(rules, string, thing):
    """Whether it is holds of the string, whatever it is."""
    return is_row(thing, 2) and are_places(string, thing[0]) and can_be_kept(rules, string, thing)


def worths_beside(rules, string, holds):
    """The worth of each pair that may stand beside the holds, or is held, by the pairs."""
    free, pairs = holds
    told = dict(rules[1])
    taken = list(free) + places_in(pairs)
    places = [place for place in range(len(string)) if place not in taken]
    worths = {}
    for i in places:
        for j in places:
            if j - i > rules[2] and string[i] + string[j] in told:
                worths[i, j] = told[string[i] + string[j]]
    for pair in pairs:
        worths[pair] = told[text_of(string, pair)] - HELD
    return worths


def least_held(rules, string, holds):
    """A tuple (worth, folding) of a least folding that keeps the holds, None where none keeps them."""
    if not can_be_kept(rules, string, holds):
        return None
    worths = worths_beside(rules, string, holds)
    if not worths:
        return 0, ()
    table = QuickTable(rules, string, worths)
    return table.whole() + HELD * len(holds[1]), table.folding()
