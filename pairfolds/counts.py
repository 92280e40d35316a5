"""How many foldings a string has, how many of each worth, and all of them."""

from pairfolds.bounds import rows_in_turn, ways_of, whole_row
from pairfolds.loops import worth_of
from pairfolds.strings import may_pair, need_string


def both_tallies(tally, other):
    """The tally of all choices of one from each: their worths are summed."""
    made = {}
    for worth in tally:
        for more in other:
            made[worth + more] = made.get(worth + more, 0) + tally[worth] * other[more]
    return made


def way_tally(way, tallies):
    worth, rows = way
    made = {worth: 1}
    for row in rows:
        made = both_tallies(made, tallies[row])
    return made


def row_tally(ways, tallies):
    made = {}
    for way in ways:
        tally = way_tally(way, tallies)
        for worth in tally:
            made[worth] = made.get(worth, 0) + tally[worth]
    return made


def worth_tally(rules, string):
    """A dict of how many foldings of the string have each worth."""
    tallies = {}
    for row in rows_in_turn(len(string)):
        # Each folding is met by just one way of its row, so none is counted twice.
        tallies[row] = row_tally(ways_of(rules, string, row), tallies)
    return tallies[whole_row(string)]


def stretch_counts(rules, string):
    """How many foldings the places i to j have by themselves, by (i, j); j is i - 1 where there are none."""
    length = len(string)
    made = {(i, i - 1): 1 for i in range(length + 1)}
    for i in range(length - 1, -1, -1):
        for j in range(i, length):
            ends = [k for k in range(i + 1, j + 1) if may_pair(rules, string, i, k)]
            made[i, j] = made[i + 1, j] + sum([made[i + 1, k - 1] * made[k + 1, j] for k in ends])
    return made


def how_many(rules, string):
    """How many foldings the string has."""
    need_string(rules, string)
    return stretch_counts(rules, string)[0, len(string) - 1]


def by_worths(rules, string):
    """A rising list of tuples (worth, number): how many foldings have each worth."""
    need_string(rules, string)
    tally = worth_tally(rules, string)
    return sorted(tally.items())


def stretch_foldings(rules, string, i, j, told):
    """The foldings of the places i to j, by those of the stretches that begin behind i."""
    made = list(told[i + 1, j])
    for k in range(i + 1, j + 1):
        if may_pair(rules, string, i, k):
            pair = ((i, k),)
            made += [pair + within + behind for within in told[i + 1, k - 1] for behind in told[k + 1, j]]
    return made


def all_foldings(rules, string):
    """All foldings of the string, as they rise."""
    need_string(rules, string)
    length = len(string)
    told = {(i, i - 1): [()] for i in range(length + 1)}
    for i in range(length - 1, -1, -1):
        for j in range(i, length):
            told[i, j] = stretch_foldings(rules, string, i, j, told)
    return sorted(told[0, length - 1])


def with_worths(rules, string):
    """All foldings of the string as tuples (worth, folding), rising."""
    return sorted([(worth_of(rules, string, folding), folding) for folding in all_foldings(rules, string)])
