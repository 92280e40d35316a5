"""Two strings held together: the string of both with a nick between, and the loop that has the nick.

The tables are those of one string, but where a row has places on both sides of the nick: there the nick has to lie
within a pair that the row goes on by, or, in a shut row, in the very loop that is shut, which is worth otherwise.
"""

from pairfolds.bounds import rows_in_turn, ways_of, whole_row
from pairfolds.foldings import is_folding
from pairfolds.least import folding_by, least_rows, least_worth
from pairfolds.loops import loop_within, loop_worths, straight_within, worth_of
from pairfolds.rules import pair_worth
from pairfolds.strings import may_pair, need_string, text_of


def need_both(rules, string, string2):
    need_string(rules, string)
    need_string(rules, string2)


def spans(nick, i, j):
    """Whether the places i to j lie on both sides of the nick, which is ahead of the place of its number."""
    return i < nick <= j


def nicked_pair(folding, nick):
    """The pair whose loop has the nick, or None."""
    around = [pair for pair in folding if spans(nick, pair[0], pair[1])]
    # Pairs around the nick lie within one another, so that the last one is the innermost.
    return around[-1] if around else None


def without_span(rules):
    letters, pairs, span, loops, stacks = rules
    return letters, pairs, 0, loops, stacks


def is_held(rules, string, string2, thing):
    """Whether it is a folding of the strings held together, whatever it is."""
    need_both(rules, string, string2)
    both = string + string2
    if not is_folding(without_span(rules), both, thing):
        return False
    nicked = nicked_pair(thing, len(string))
    return all([pair == nicked or may_pair(rules, both, pair[0], pair[1]) for pair in thing])


def held_worth(rules, string, string2, folding):
    """The worth of a folding of the strings held together."""
    both = string + string2
    worth = worth_of(rules, both, folding)
    nicked = nicked_pair(folding, len(string))
    if nicked is None:
        return worth
    within = straight_within(folding, nicked)
    return worth - loop_within(rules, both, nicked, within)[2] + len(within) * loop_worths(rules)["open"]


def open_parts(i, nick, length):
    """The open rows from i on by which a loop with the nick goes on, on one of its sides."""
    lasts = [nick - 1] if i < nick else list(range(i - 1, length - 1))
    return [("open", i, last) for last in lasts]


def nicked_rows(length, nick):
    """All rows, in an order in which no row goes on by a later one."""
    rows = []
    for row in rows_in_turn(length):
        rows.append(row)
        if row[0] == "open":
            rows += open_parts(row[1], nick, length)
    return rows


def ways_with_nick(rules, string, nick, i, j):
    """The way of a shut row in whose loop the nick lies: an open row on each side."""
    worth = pair_worth(rules, text_of(string, (i, j)))
    return [] if worth is None else [(worth, (("open", i + 1, nick - 1), ("open", nick, j - 1)))]


def nicked_ways(rules, string, nick, row):
    """All ways of a row; each folding that the row speaks of is met by just one."""
    kind, i, j = row
    ways = ways_of(rules, string, row)
    if kind == "open" or not spans(nick, i, j):
        return ways
    around = [way for way in ways if any([spans(nick, p, q) for part, p, q in way[1]])]
    return around + ways_with_nick(rules, string, nick, i, j) if kind == "shut" else around


def ways_together(rules, string, string2):
    """The ways of each row of the strings held together, by its call."""
    both = string + string2
    nick = len(string)
    return {row: nicked_ways(rules, both, nick, row) for row in nicked_rows(len(both), nick)}


def least_together(rules, string, string2):
    """A tuple (worth, folding) of a least folding of the strings held together, the same one each time."""
    need_both(rules, string, string2)
    ways = ways_together(rules, string, string2)
    worths = least_rows(ways)
    row = whole_row(string + string2)
    return worths[row], folding_by(ways, worths, row)


def way_count(way, counts):
    many = 1
    for row in way[1]:
        many *= counts[row]
    return many


def how_many_held(rules, string, string2):
    """How many foldings the strings held together have."""
    need_both(rules, string, string2)
    ways = ways_together(rules, string, string2)
    counts = {}
    for row in ways:
        counts[row] = sum([way_count(way, counts) for way in ways[row]])
    return counts[whole_row(string + string2)]


def won(rules, string, string2):
    """How much less the strings are worth held together than both alone."""
    alone = least_worth(rules, string) + least_worth(rules, string2)
    return alone - least_together(rules, string, string2)[0]
