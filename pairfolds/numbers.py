"""Foldings numbered from 0 as they rise, and the way back from a number.

A folding is met pair by pair. The pairs that may follow lie in stretches of places (i, j) behind the last one, each of
which folds by itself, so that the foldings that go on from there are counted without a list of them.
"""

from pairfolds.counts import stretch_counts
from pairfolds.errors import NoFolding, NoNumber
from pairfolds.foldings import is_folding
from pairfolds.rules import is_whole
from pairfolds.strings import may_pair, need_string


def next_pairs(rules, string, stretches):
    """The pairs that may follow, rising, as tuples (pair, the stretches behind it)."""
    found = []
    for at, (i, j) in enumerate(stretches):
        for p in range(i, j):
            for q in range(p + 1, j + 1):
                if may_pair(rules, string, p, q):
                    found.append(((p, q), [(p + 1, q - 1), (q + 1, j)] + stretches[at + 1:]))
    return found


def many_in(counts, stretches):
    many = 1
    for stretch in stretches:
        many *= counts[stretch]
    return many


def folding_of(rules, string, number):
    """The folding of a number; NoNumber of whatever is no number of one."""
    need_string(rules, string)
    counts = stretch_counts(rules, string)
    stretches = [(0, len(string) - 1)]
    if not is_whole(number) or not 0 <= number < many_in(counts, stretches):
        raise NoNumber("no number of a folding")
    folding = ()
    ahead = number
    while ahead > 0:
        # The folding that ends here comes ahead of all that go on.
        ahead -= 1
        following = next_pairs(rules, string, stretches)
        for pair, behind in following:
            many = many_in(counts, behind)
            if ahead < many:
                folding += (pair,)
                stretches = behind
                break
            ahead -= many
    return folding


def number_of(rules, string, folding):
    """The number of a folding; NoFolding of whatever is none."""
    need_string(rules, string)
    if not is_folding(rules, string, folding):
        raise NoFolding("no folding of the string")
    counts = stretch_counts(rules, string)
    stretches = [(0, len(string) - 1)]
    number = 0
    for pair in folding:
        number += 1
        following = next_pairs(rules, string, stretches)
        for other, behind in following:
            if other == pair:
                stretches = behind
                break
            number += many_in(counts, behind)
    return number
