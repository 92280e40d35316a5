"""Pairs that all least foldings have, once some places are held free, and papers that show that fewer do not do."""

from pairfolds.counts import with_worths
from pairfolds.foldings import is_folding
from pairfolds.holds import are_places, can_be_kept, keeps_free, worths_beside
from pairfolds.loops import worth_of
from pairfolds.quick import QuickTable
from pairfolds.rules import is_row, is_whole


def with_loops_twice(rules):
    """The rules with loops and stacks of twice their worths."""
    letters, pairs, span, loops, stacks = rules
    doubled = tuple([(outer, within, 2 * worth) for outer, within, worth in stacks])
    return letters, pairs, span, tuple([2 * worth for worth in loops]), doubled


def is_forced(rules, string, pair, holds):
    """Whether each least folding of those that keep the holds has the pair, and there is one."""
    if not can_be_kept(rules, string, holds):
        return False
    worths = worths_beside(rules, string, holds)
    if pair not in worths:
        return False
    # All is taken twice, and the pair for one more: so a folding without it goes ahead of those with it that were
    # worth as much, and the least is odd only where there is none.
    doubled = {other: 2 * worths[other] for other in worths}
    doubled[pair] += 1
    return QuickTable(with_loops_twice(rules), string, doubled).whole() % 2 == 1


def sets_beside(string, pair):
    """All sets of places beside the pair's own, rising by (how many, places)."""
    sets = [()]
    for place in range(len(string)):
        if place not in pair:
            sets = sets + [places + (place,) for places in sets]
    return sorted(sets, key=lambda places: (len(places), places))


def least_that_keep(rows, places):
    """Of all foldings with their worths, rising, the least ones of those that keep the places free."""
    kept = [row for row in rows if keeps_free(row[1], places)]
    return [row for row in kept if row[0] == kept[0][0]]


def forcing(rules, string, pair):
    """A tuple (places, paper): as few places as force the pair, held free, and of each lesser set a row against it."""
    rows = with_worths(rules, string)
    paper = []
    for places in sets_beside(string, pair):
        others = [folding for worth, folding in least_that_keep(rows, places) if pair not in folding]
        if not others:
            return places, [row for row in paper if len(row[0]) < len(places)]
        paper.append((places, others[0]))
    return None, paper


def is_row_against(rules, string, pair, places, least, thing):
    """Whether it is the row of the places: with a folding of the least worth that keeps them free, without the pair."""
    if not is_row(thing, 2) or thing[0] != places or not all([is_whole(place) for place in thing[0]]):
        return False
    folding = thing[1]
    if not is_folding(rules, string, folding) or pair in folding or not keeps_free(folding, places):
        return False
    return worth_of(rules, string, folding) == least


def is_paper(rules, string, pair, sets, thing):
    """Whether it is a list of rows of all the sets."""
    if not isinstance(thing, list) or len(thing) != len(sets):
        return False
    rows = with_worths(rules, string)
    for places, row in zip(sets, thing):
        least = least_that_keep(rows, places)[0][0]
        if not is_row_against(rules, string, pair, places, least, row):
            return False
    return True


def is_forcing(rules, string, pair, thing):
    """Whether it is a rising tuple of places that force the pair, held free."""
    # A place of the pair's own forces nothing: no folding that keeps it free has the pair.
    return are_places(string, thing) and is_forced(rules, string, pair, (thing, ()))


def lets_forcing(rules, string, pair, thing):
    """Whether it is a tuple (places or None, paper) as forcing may tell it, whatever it is."""
    if not is_row(thing, 2):
        return False
    places, paper = thing
    sets = sets_beside(string, pair)
    if places is None:
        return is_paper(rules, string, pair, sets, paper)
    if not is_forcing(rules, string, pair, places):
        return False
    fewer = [told for told in sets if len(told) < len(places)]
    return is_paper(rules, string, pair, fewer, paper)
