"""Strings of the letters of rules, and which of their places may pair."""

from pairfolds.errors import NoString
from pairfolds.rules import pair_worth

MOST_PLACES = 12


def is_string(rules, thing):
    """Whether it is a string of the rules, whatever it is."""
    if not isinstance(thing, str) or len(thing) > MOST_PLACES:
        return False
    return all([letter in rules[0] for letter in thing])


def need_string(rules, thing):
    """Refuse with NoString whatever is no string of the rules."""
    if not is_string(rules, thing):
        raise NoString("no string of the rules")


def text_of(string, pair):
    """The text of both letters of a pair."""
    return string[pair[0]] + string[pair[1]]


def may_pair(rules, string, i, j):
    """Whether the places i and j may pair, i the lesser one."""
    if not 0 <= i < j < len(string):
        return False
    if j - i - 1 < rules[2]:
        return False
    return pair_worth(rules, text_of(string, (i, j))) is not None
