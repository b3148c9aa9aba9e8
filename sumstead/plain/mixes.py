"""What the plain reading reckons with where forms are asked: constants, and factors of leaf places."""

from sumstead.base.reckoning import added, divided, is_over_great, multiplied, summed
from sumstead.base.worths import ONE, ZERO
from sumstead.errors import Refused
from sumstead.plain.linear import is_linear_node

_MINUS_ONE = (-1, 1)


class Mix:
    """A form while it is reckoned with: a constant, factors, and whether it is always there."""

    def __init__(self, start, factors, certain):
        self.start = start
        self.factors = factors
        self.certain = certain
        # A place that is told what another one is told shares its mix, which need not be checked anew.
        self.checked = False


def _is_constant(mix):
    return mix.certain and len(mix.factors) == 0


def _sum_of_factors(pairs):
    factors = {}
    for weight, mix in pairs:
        for place in mix.factors:
            part = mix.factors[place]
            if weight != ONE:
                part = multiplied(weight, part)
            factors[place] = added(factors.get(place, None), part)
    return factors


def joined(pairs):
    """The sum of the products of pairs (weight, mix)."""
    pairs = [(weight, mix) for weight, mix in pairs if mix.certain or len(mix.factors) > 0]
    if len(pairs) == 0:
        return Mix(ZERO, {}, False)
    if len(pairs) == 1 and pairs[0][0] == ONE:
        return pairs[0][1]
    start = summed([(weight, mix.start) for weight, mix in pairs])
    factors = _sum_of_factors(pairs)
    if not any([mix.certain for _, mix in pairs]):
        return Mix(start, factors, False)
    return Mix(start, {place: factors[place] for place in factors if factors[place] != ZERO}, True)


class MixWays:
    """Reckons a reading in mixes, by linear rules alone."""

    def leaf(self, place):
        """What a leaf place without a rule is told."""
        return Mix(ZERO, {place: ONE}, False)

    def check_rule(self, index, rule):
        """Refuses a rule that is not linear."""
        if not is_linear_node(rule.formula):
            raise Refused(("rule", index))

    def of_worth(self, worth):
        """What a formula of one worth tells."""
        return Mix(worth, {}, True)

    def nothing(self):
        """What a formula without a worth tells."""
        return Mix(ZERO, {}, False)

    def reckon(self, place, word, one, other):
        """What an operator of a linear formula tells."""
        if word == "plus":
            return joined([(ONE, one), (ONE, other)])
        if word == "minus":
            return joined([(ONE, one), (_MINUS_ONE, other)])
        if word == "over":
            return joined([(divided(ONE, other.start), one)])
        if _is_constant(one):
            return joined([(one.start, other)])
        return joined([(other.start, one)])

    def opened(self, place, pairs):
        """What an opened place is told, of pairs (weight, told)."""
        return joined(pairs)

    def check_told(self, place, told):
        """Refuses a place whose mix has a number of too many digits."""
        if told.checked:
            return
        if is_over_great(told.start) or any([is_over_great(told.factors[leaves]) for leaves in told.factors]):
            raise Refused(("great", place))
        told.checked = True
