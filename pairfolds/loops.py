"""The loops of a folding, and what it is worth."""

from pairfolds.rules import LOOPS, pair_worth, stack_worth
from pairfolds.strings import text_of


def straight_within(folding, pair):
    """The pairs straight within a pair of the folding, or the outermost ones where pair is None."""
    found = []
    for i, j in folding:
        inside = pair is None or (pair[0] < i and j < pair[1])
        # A folding rises, so whatever holds this pair was met before it.
        if inside and (not found or found[-1][1] < i):
            found.append((i, j))
    return found


def loop_worths(rules):
    """The worths of loops by their words."""
    return dict(zip(LOOPS, rules[3]))


def kind_of(free, branches):
    if branches == 0:
        return "lone"
    if branches > 1:
        return "forked"
    return "inner" if free > 0 else "stacked"


def loop_within(rules, string, pair, within):
    """A tuple (kind, free, worth): the loop of a pair by the pairs straight within it."""
    free = pair[1] - pair[0] - 1 - sum([q - p + 1 for p, q in within])
    kind = kind_of(free, len(within))
    told = loop_worths(rules)
    worth = told[kind]
    if kind == "lone":
        worth += free * told["lone free"]
    elif kind == "inner":
        worth += free * told["inner free"]
    elif kind == "stacked":
        worth += stack_worth(rules, text_of(string, pair), text_of(string, within[0]))
    else:
        worth += len(within) * told["branch"] + free * told["fork free"]
    return kind, free, worth


def loops_of(rules, string, folding):
    """A list of tuples (i, j, kind, free, worth), the loop of each pair in turn."""
    return [pair + loop_within(rules, string, pair, straight_within(folding, pair)) for pair in folding]


def worth_of(rules, string, folding):
    """The worth of a folding: its pairs, their loops, and open for each outermost pair."""
    pairs = sum([pair_worth(rules, text_of(string, pair)) for pair in folding])
    loops = sum([loop[4] for loop in loops_of(rules, string, folding)])
    return pairs + loops + len(straight_within(folding, None)) * loop_worths(rules)["open"]
