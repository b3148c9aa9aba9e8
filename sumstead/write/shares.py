"""Shares of a total: rounded down to multiples of a unit, and what is left over put back."""

from math import lcm

from sumstead.base.reckoning import added, divided, multiplied
from sumstead.base.worths import ZERO


def units_below(share, unit):
    """How many units the greatest multiple has that is not above a share."""
    told = divided(share, unit)
    return told[0] // told[1]


def is_fair(share, unit, value):
    """Whether a worth is a share rounded down or up."""
    low = units_below(share, unit)
    lower = multiplied((low, 1), unit)
    return value == lower or (lower != share and value == multiplied((low + 1, 1), unit))


def _rests(quotients, floors):
    """What the quotients have more than the floors, all times one number."""
    bottom = 1
    for quotient in quotients:
        bottom = lcm(bottom, quotient[1])
    return [(one[0] - low * one[1]) * (bottom // one[1]) for one, low in zip(quotients, floors)]


def first_rounding(shares, unit):
    """The shares, which add up to a multiple of a unit, rounded down, and those with the greatest rests up."""
    quotients = [divided(share, unit) for share in shares]
    floors = [one[0] // one[1] for one in quotients]
    total = ZERO
    for one in quotients:
        total = added(total, one)
    over = total[0] - sum(floors)
    ranks = sorted([(-rest, seat) for seat, rest in enumerate(_rests(quotients, floors))])
    raised = {seat: 1 for _, seat in ranks[:over]}
    return [multiplied((low + raised.get(seat, 0), 1), unit) for seat, low in enumerate(floors)]
