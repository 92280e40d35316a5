"""The rows of tables, the ways that each goes on by, and whether a table is bounds.

A row is called by a tuple (kind, i, j). A way of a row is a tuple (worth, rows): what it adds by itself, and the rows
that it goes on by.
"""

from pairfolds.loops import loop_within, loop_worths
from pairfolds.rules import is_row, is_whole, pair_worth
from pairfolds.strings import is_string, may_pair, text_of


def rows_in_turn(length):
    """All rows of a string so long, in an order in which no row goes on by a later one."""
    rows = []
    for i in range(length, -1, -1):
        for j in range(i, length):
            if i < j:
                rows.append(("shut", i, j))
            rows.append(("one", i, j))
            rows.append(("two", i, j))
        rows.append(("open", i, length - 1))
    return rows


def whole_row(string):
    """The call of the row that speaks of all foldings of the string."""
    return ("open", 0, len(string) - 1)


def shut_ways(rules, string, i, j):
    if not may_pair(rules, string, i, j):
        return []
    pair = (i, j)
    worth = pair_worth(rules, text_of(string, pair))
    ways = [(worth + loop_within(rules, string, pair, [])[2], ())]
    for p in range(i + 1, j):
        for q in range(p + 1, j):
            loop = loop_within(rules, string, pair, [(p, q)])
            ways.append((worth + loop[2], (("shut", p, q),)))
    if i + 1 < j:
        ways.append((worth + loop_worths(rules)["forked"], (("two", i + 1, j - 1),)))
    return ways


def one_ways(rules, i, j):
    told = loop_worths(rules)
    ways = []
    if i < j:
        ways.append((told["fork free"], (("one", i + 1, j),)))
    for k in range(i + 1, j + 1):
        ways.append((told["branch"] + (j - k) * told["fork free"], (("shut", i, k),)))
    return ways + branch_ways(told["branch"], i, j)


def two_ways(rules, i, j):
    told = loop_worths(rules)
    ways = []
    if i < j:
        ways.append((told["fork free"], (("two", i + 1, j),)))
    return ways + branch_ways(told["branch"], i, j)


def branch_ways(branch, i, j):
    """The ways by a pair at i with at least one more pair behind it."""
    return [(branch, (("shut", i, k), ("one", k + 1, j))) for k in range(i + 1, j)]


def open_ways(rules, i, last):
    if i > last:
        return [(0, ())]
    worth = loop_worths(rules)["open"]
    ways = [(0, (("open", i + 1, last),))]
    for k in range(i + 1, last + 1):
        ways.append((worth, (("shut", i, k), ("open", k + 1, last))))
    return ways


def ways_of(rules, string, row):
    """All ways of a row; each folding that the row speaks of is met by just one."""
    kind, i, j = row
    if kind == "shut":
        return shut_ways(rules, string, i, j)
    if kind == "one":
        return one_ways(rules, i, j)
    if kind == "two":
        return two_ways(rules, i, j)
    return open_ways(rules, i, j)


def comes_to(way, worths):
    """What a way comes to by the worths of rows, None where one of its rows has none."""
    worth, rows = way
    told = [worths[row] for row in rows]
    return None if None in told else worth + sum(told)


def least_way(ways, worths):
    """The least that the ways of a row come to by the worths of rows, or None."""
    told = [comes_to(way, worths) for way in ways]
    return min([worth for worth in told if worth is not None], default=None)


def is_table_row(thing, row):
    """Whether it is the row of that call with a worth or None."""
    if not is_row(thing, 4) or not is_whole(thing[1]) or not is_whole(thing[2]):
        return False
    return thing[:3] == row and (thing[3] is None or is_whole(thing[3]))


def is_table(length, thing):
    rows = sorted(rows_in_turn(length))
    if not isinstance(thing, list) or len(thing) != len(rows):
        return False
    return all([is_table_row(told, row) for told, row in zip(thing, rows)])


def is_at_most(worth, bound):
    """Whether a worth is no more than a bound, None being more than any worth."""
    return bound is None or (worth is not None and worth <= bound)


def lets_bounds(rules, string, thing):
    """Whether it is bounds of the string, whatever it is."""
    if not is_string(rules, string) or not is_table(len(string), thing):
        return False
    worths = {row[:3]: row[3] for row in thing}
    return all([is_at_most(worths[row], least_way(ways_of(rules, string, row), worths)) for row in worths])
