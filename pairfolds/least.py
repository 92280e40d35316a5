"""The least worth of a string, a folding that has it, and the table that shows that none has less."""

from pairfolds.bounds import comes_to, least_way, rows_in_turn, ways_of, whole_row
from pairfolds.strings import need_string


def all_ways(rules, string):
    """The ways of each row by its call, in an order in which no row goes on by a later one."""
    return {row: ways_of(rules, string, row) for row in rows_in_turn(len(string))}


def least_rows(ways):
    """The least worth of each row, by the ways of all."""
    worths = {}
    for row in ways:
        worths[row] = least_way(ways[row], worths)
    return worths


def table_of(rules, string):
    """All rows of the string with their least worths, rising by (kind, i, j)."""
    need_string(rules, string)
    worths = least_rows(all_ways(rules, string))
    return [row + (worths[row],) for row in sorted(worths)]


def least_worth(rules, string):
    """The least worth of all foldings of the string."""
    need_string(rules, string)
    return least_rows(all_ways(rules, string))[whole_row(string)]


def best_way(ways, worth, worths):
    """The first of the ways that comes to the worth."""
    best = [way for way in ways if comes_to(way, worths) == worth]
    return best[0]


def folding_by(ways, worths, row):
    """A folding that comes to the worth of the row, the same one each time."""
    pairs = []
    waiting = [row]
    while waiting:
        now = waiting.pop()
        if now[0] == "shut":
            pairs.append(now[1:])
        waiting.extend(best_way(ways[now], worths[now], worths)[1])
    return tuple(sorted(pairs))


def least_folding(rules, string):
    """A folding of the least worth, the same one each time."""
    need_string(rules, string)
    ways = all_ways(rules, string)
    return folding_by(ways, least_rows(ways), whole_row(string))
