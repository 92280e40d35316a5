"""The weight of a string, and the shares of its pairs and of its free places.

A folding weighs base ** worth. So that no shares need be summed, all weights are taken as whole numbers over one
bottom: the worths of a string lie about 0, that of the folding without pairs, and the lowest and the highest give it.
"""

from pairfolds.counts import by_worths, with_worths
from pairfolds.shares import share_of


def power(number, exponent):
    """The number to an exponent from 0 on, by squares."""
    made = 1
    square = number
    left = exponent
    while left > 0:
        if left % 2 == 1:
            made *= square
        square *= square
        left //= 2
    return made


def common_bottom(worths, base):
    return power(base[0], -min(worths)) * power(base[1], max(worths))


def tops_by_worth(worths, base):
    """For each worth the top of base ** worth over the common bottom."""
    low = min(worths)
    high = max(worths)
    return {worth: power(base[0], worth - low) * power(base[1], high - worth) for worth in sorted(set(worths))}


def weight(rules, string, *, base=(1, 1)):
    """The sum of what all foldings of the string weigh."""
    rows = by_worths(rules, string)
    worths = [worth for worth, many in rows]
    tops = tops_by_worth(worths, base)
    return share_of(sum([many * tops[worth] for worth, many in rows]), common_bottom(worths, base))


def foldings_with_tops(rules, string, base):
    """All foldings as tuples (top, folding), in the proportion in which they weigh."""
    rows = with_worths(rules, string)
    tops = tops_by_worth([worth for worth, folding in rows], base)
    return [(tops[worth], folding) for worth, folding in rows]


def pair_shares(rules, string, *, base=(1, 1)):
    """All pairs with a share above 0, rising as tuples (i, j, share)."""
    rows = foldings_with_tops(rules, string, base)
    total = sum([top for top, folding in rows])
    tops = {}
    for top, folding in rows:
        for pair in folding:
            tops[pair] = tops.get(pair, 0) + top
    return [pair + (share_of(tops[pair], total),) for pair in sorted(tops)]


def free_shares(rules, string, *, base=(1, 1)):
    """For each place the share in which it stays free."""
    rows = foldings_with_tops(rules, string, base)
    total = sum([top for top, folding in rows])
    paired = [0] * len(string)
    for top, folding in rows:
        for i, j in folding:
            paired[i] += top
            paired[j] += top
    return [share_of(total - top, total) for top in paired]
