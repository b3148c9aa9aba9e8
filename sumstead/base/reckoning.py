"""Sums and products of worths that are known to be worths."""

from math import gcd


def lowest(top, bottom):
    """The worth of a fraction with a bottom other than 0."""
    shared = gcd(top, bottom)
    if bottom < 0:
        shared = -shared
    return (top // shared, bottom // shared)


def added(one, other):
    """The sum, with nothing left out."""
    if one is None:
        return other
    if other is None:
        return one
    if one[1] == other[1]:
        if one[1] == 1:
            return (one[0] + other[0], 1)
        return lowest(one[0] + other[0], one[1])
    return lowest(one[0] * other[1] + other[0] * one[1], one[1] * other[1])


def opposite(one):
    """The worth with the other sign, or nothing."""
    if one is None:
        return None
    return (-one[0], one[1])


def multiplied(one, other):
    """The product, or nothing."""
    if one is None or other is None:
        return None
    if one[1] == 1 and other[1] == 1:
        return (one[0] * other[0], 1)
    return lowest(one[0] * other[0], one[1] * other[1])


def divided(one, other):
    """The quotient by a worth other than 0, or nothing."""
    if one is None or other is None:
        return None
    return lowest(one[0] * other[1], one[1] * other[0])


def summed(pairs):
    """The sum of the products of pairs (weight, worth or None)."""
    total = None
    for weight, worth in pairs:
        total = added(total, multiplied(weight, worth))
    return total


def is_less(one, other):
    """Whether one worth is less than another one."""
    return one[0] * other[1] < other[0] * one[1]
