"""Walls below a ridge: foldings from which no step leads on without going as high as it."""

from pairfolds.foldings import is_folding
from pairfolds.loops import worth_of
from pairfolds.ridges import ridge, steps_from
from pairfolds.rules import rises


def lower_steps(rules, string, folding, height):
    """The foldings to which a step leads and that are worth less than the height."""
    steps = steps_from(rules, string, folding)
    return [after for after in steps if worth_of(rules, string, after) < height]


def wall(rules, string, folding, other):
    """A wall below the lowest ridge between two foldings: all that is met below it from the first one."""
    height = ridge(rules, string, folding, other)[0]
    if worth_of(rules, string, folding) >= height:
        return []
    met = {folding: True}
    waiting = [folding]
    while waiting:
        now = waiting.pop()
        for after in lower_steps(rules, string, now, height):
            if after not in met:
                met[after] = True
                waiting.append(after)
    return sorted(met)


def is_shut_off(rules, string, height, foldings):
    """Whether all are worth less than the height, and all to which steps lead are among them or not so low."""
    if not all([worth_of(rules, string, folding) < height for folding in foldings]):
        return False
    members = {folding: True for folding in foldings}
    return all([after in members for folding in foldings for after in lower_steps(rules, string, folding, height)])


def wall_holds(rules, string, folding, other, height, thing):
    """Whether it is a wall below the height between a folding and another one, whatever it is."""
    if not isinstance(thing, list):
        return False
    if not thing:
        return worth_of(rules, string, folding) >= height
    if not all([is_folding(rules, string, member) for member in thing]) or not rises(thing):
        return False
    if folding not in thing or other in thing:
        return False
    return is_shut_off(rules, string, height, thing)
