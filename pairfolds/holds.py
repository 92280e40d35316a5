"""Holds: places that stay free and pairs that stand, and the least folding of those that keep them.

Holds are kept by leaving out ways: all of a row that shuts a place held otherwise, and those that leave a place of a
held pair free. Each folding by the ways that stay keeps the holds, and each that keeps them stays.
"""

from pairfolds.bounds import whole_row
from pairfolds.foldings import is_folding
from pairfolds.least import all_ways, folding_by, least_rows
from pairfolds.rules import is_row, is_whole, rises


def are_places(string, thing):
    """Whether it is a rising tuple of places, whatever it is."""
    if not isinstance(thing, tuple) or not all([is_whole(place) for place in thing]):
        return False
    return all([0 <= place < len(string) for place in thing]) and rises(thing)


def places_in(pairs):
    return [place for pair in pairs for place in pair]


def keeps_free(folding, places):
    """Whether none of the places is in a pair of the folding."""
    return all([place not in places for place in places_in(folding)])


def can_be_kept(rules, string, holds):
    """Whether a folding keeps the holds: where one does, their pairs do so themselves."""
    free, pairs = holds
    return is_folding(rules, string, pairs) and keeps_free(pairs, free)


def are_holds(rules, string, thing):
    """Whether it is holds of the string, whatever it is."""
    return is_row(thing, 2) and are_places(string, thing[0]) and can_be_kept(rules, string, thing)


def may_shut(pair, holds, without):
    """Whether a pair does not break the holds and is not the one to do without."""
    if pair == without:
        return False
    free, pairs = holds
    held = places_in(pairs)
    return pair in pairs or not any([place in free or place in held for place in pair])


def held_ahead(length, pairs):
    """For each place and the length how many places of the pairs lie ahead of it."""
    held = places_in(pairs)
    counts = [0]
    for place in range(length):
        counts.append(counts[-1] + held.count(place))
    return counts


def leaves_held(row, way, ahead):
    """Whether a way of a row leaves a place of a held pair free."""
    kind, i, j = row
    many = ahead[j] - ahead[i + 1] if kind == "shut" else ahead[j + 1] - ahead[i]
    return many > sum([ahead[q + 1] - ahead[p] for part, p, q in way[1]])


def kept_ways(rules, string, holds, without):
    """The ways of all rows that keep the holds, without that pair."""
    ahead = held_ahead(len(string), holds[1])
    ways = all_ways(rules, string)
    made = {}
    for row in ways:
        if row[0] == "shut" and not may_shut(row[1:], holds, without):
            made[row] = []
        else:
            made[row] = [way for way in ways[row] if not leaves_held(row, way, ahead)]
    return made


def least_kept(rules, string, holds, without):
    """Of the foldings that keep the holds without that pair (None: with any) a least one, as least_held tells it."""
    if not can_be_kept(rules, string, holds):
        return None
    ways = kept_ways(rules, string, holds, without)
    worths = least_rows(ways)
    row = whole_row(string)
    if worths[row] is None:
        return None
    return worths[row], folding_by(ways, worths, row)


def least_held(rules, string, holds):
    """A tuple (worth, folding) of a least folding that keeps the holds, None where none keeps them."""
    return least_kept(rules, string, holds, None)
