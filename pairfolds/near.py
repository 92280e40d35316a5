"""Foldings whose worth lies near the least one."""

from pairfolds.counts import by_worths, with_worths
from pairfolds.loops import loops_of


def near(rules, string, *, more=0):
    """All foldings at most more above the least worth, as tuples (worth, folding), rising."""
    rows = with_worths(rules, string)
    return [row for row in rows if row[0] <= rows[0][0] + more]


def how_near(rules, string, *, more=0):
    """How many foldings are at most more above the least worth."""
    rows = by_worths(rules, string)
    return sum([many for worth, many in rows if worth <= rows[0][0] + more])


def gap(rules, string):
    """The least worth that is more than the least one, None where all have the least."""
    rows = by_worths(rules, string)
    return rows[1][0] if len(rows) > 1 else None


def loop_kinds(rules, string, folding):
    """A tuple of (kind, free) of all loops, sorted: the same for foldings that are alike in loops."""
    return tuple(sorted([(kind, free) for i, j, kind, free, worth in loops_of(rules, string, folding)]))


def kinds(rules, string, *, more=0):
    """Of each kind of loops near the least the first folding."""
    met = {}
    for worth, folding in near(rules, string, more=more):
        met.setdefault(loop_kinds(rules, string, folding), folding)
    return list(met.values())
