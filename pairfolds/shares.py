"""Shares: tuples (top, bottom) without a common divisor, the bottom from 1 on."""


def greatest_divisor(number, other):
    """The greatest number that divides both, neither below 0."""
    while other > 0:
        number, other = other, number % other
    return number


def share_of(top, bottom=1):
    """The share of top over bottom, which is not 0."""
    if bottom < 0:
        return share_of(-top, -bottom)
    divisor = greatest_divisor(abs(top), bottom)
    return top // divisor, bottom // divisor


def plus(share, other):
    """The sum of two shares."""
    return share_of(share[0] * other[1] + other[0] * share[1], share[1] * other[1])


def times(share, other):
    """The product of two shares."""
    return share_of(share[0] * other[0], share[1] * other[1])


def over(share, other):
    """The first share over the other one, which is not 0."""
    return share_of(share[0] * other[1], share[1] * other[0])
