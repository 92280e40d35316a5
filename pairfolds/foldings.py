"""Foldings of a string: rising tuples of pairs of places, and their brackets."""

from pairfolds.rules import is_row, is_whole, rises
from pairfolds.strings import may_pair


def is_pair(rules, string, thing):
    """Whether it is a tuple of two places that may pair."""
    if not is_row(thing, 2) or not is_whole(thing[0]) or not is_whole(thing[1]):
        return False
    return may_pair(rules, string, thing[0], thing[1])


def go_together(pair, later):
    """Whether two pairs, the lesser one first, share no place and do not cross."""
    return pair[1] < later[0] or later[1] < pair[1]


def is_folding(rules, string, thing):
    """Whether it is a folding of the string, whatever it is."""
    if not isinstance(thing, tuple) or not all([is_pair(rules, string, pair) for pair in thing]):
        return False
    if not rises(thing):
        return False
    return all([go_together(pair, later) for at, pair in enumerate(thing) for later in thing[at + 1:]])


def brackets(string, folding):
    """The folding written as a text as long as the string."""
    signs = ["."] * len(string)
    for i, j in folding:
        signs[i] = "("
        signs[j] = ")"
    return "".join(signs)


def pairs_in(text):
    """The pairs that brackets write, None where they are not matched or another sign stands there."""
    begun = []
    pairs = []
    for at, sign in enumerate(text):
        if sign == "(":
            begun.append(at)
        elif sign == ")" and begun:
            pairs.append((begun.pop(), at))
        elif sign != ".":
            return None
    return None if begun else tuple(sorted(pairs))
