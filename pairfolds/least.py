"""The least worth of a string, a folding that has it, and the table that shows that none has less."""

from pairfolds.bounds import comes_to, least_way, rows_in_turn, ways_of, whole_row
from pairfolds.strings import need_string


def least_rows(rules, string):
    """The least worth of each row, by its call."""
    worths = {}
    for row in rows_in_turn(len(string)):
        worths[row] = least_way(rules, string, row, worths)
    return worths


def table_of(rules, string):
    """All rows of the string with their least worths, rising by (kind, i, j)."""
    need_string(rules, string)
    worths = least_rows(rules, string)
    return [row + (worths[row],) for row in sorted(worths)]


def least_worth(rules, string):
    """The least worth of all foldings of the string."""
    need_string(rules, string)
    return least_rows(rules, string)[whole_row(string)]


def best_way(rules, string, row, worths):
    """The first way of a row that comes to its worth."""
    best = [way for way in ways_of(rules, string, row) if comes_to(way, worths) == worths[row]]
    return best[0]


def least_folding(rules, string):
    """A folding of the least worth, the same one each time."""
    need_string(rules, string)
    worths = least_rows(rules, string)
    pairs = []
    waiting = [whole_row(string)]
    while waiting:
        row = waiting.pop()
        if row[0] == "shut":
            pairs.append(row[1:])
        waiting.extend(best_way(rules, string, row, worths)[1])
    return tuple(sorted(pairs))
