"""What the plain reading reckons with where forms are asked: constants, and factors of leaf places.

A mix keeps which mixes it was made of, and its factors are worked out only where they are asked. So a long
chain of places, each with one leaf place more than the one ahead, takes no more than the places themselves.
"""

from math import lcm

from sumstead.base.integers import has_more_digits
from sumstead.base.reckoning import added, divided, multiplied, summed
from sumstead.base.worths import MOST_DIGITS, ONE, ZERO, is_over_great
from sumstead.errors import Refused
from sumstead.plain.nodes import is_linear_node

_MINUS_ONE = (-1, 1)


class Mix:
    """A form while it is reckoned with: a constant, whether it is always there, and weighted further mixes.

    All factors are integers of at most `greatest` over the common bottom `common`, which is 0 if it is not known.
    """

    def __init__(self, serial, start, certain, parts):
        self.serial = serial
        self.start = start
        self.certain = certain
        self.parts = parts
        self.leaf_place = None
        self.common = 1
        self.greatest = 0
        # A place that is told what another one is told shares its mix, which need not be checked anew.
        self.checked = False


def _is_constant(mix):
    return mix.certain and len(mix.parts) == 0


def _is_nothing(mix):
    return not mix.certain and len(mix.parts) == 0 and mix.leaf_place is None


def _bound(mix):
    """Works out the bounds of the factors of a mix from those of its parts."""
    if not all([part.common > 0 for weight, part in mix.parts]):
        mix.common = 0
        return
    common = 1
    for weight, part in mix.parts:
        common = lcm(common, weight[1] * part.common)
    tops = [abs(weight[0]) * part.greatest * (common // (weight[1] * part.common)) for weight, part in mix.parts]
    mix.common = common
    mix.greatest = sum(tops)


def _is_safe(mix):
    """Whether the bounds tell that no factor has too many digits."""
    if mix.common == 0 or has_more_digits(mix.common, MOST_DIGITS):
        return False
    return not has_more_digits(mix.greatest, MOST_DIGITS)


def _bound_by(mix, factors):
    """Works out the bounds of the factors of a mix from these factors."""
    common = 1
    for place in factors:
        common = lcm(common, factors[place][1])
        if has_more_digits(common, MOST_DIGITS):
            mix.common = 0
            return
    mix.common = common
    mix.greatest = max([0] + [abs(factors[place][0]) * (common // factors[place][1]) for place in factors])


def _reached(mix):
    """The dict from the serials of all mixes of which a mix is made to these, itself among them."""
    found = {mix.serial: mix}
    left = [mix]
    while len(left) > 0:
        one = left.pop()
        for _, part in one.parts:
            if part.serial not in found:
                found[part.serial] = part
                left.append(part)
    return found


def factors_of(mix):
    """The dict from leaf places to their factors."""
    reached = _reached(mix)
    weights = {mix.serial: ONE}
    factors = {}
    # A mix is made later than its parts: so all weights of a mix are known when it is its turn.
    for serial in sorted(reached, reverse=True):
        one = reached[serial]
        if one.leaf_place is not None:
            factors[one.leaf_place] = weights[serial]
        for share, part in one.parts:
            more = multiplied(weights[serial], share)
            weights[part.serial] = added(weights.get(part.serial, None), more)
    if not mix.certain:
        return factors
    return {place: factors[place] for place in factors if factors[place] != ZERO}


class MixWays:
    """Reckons a reading in mixes, by linear rules alone."""

    def __init__(self):
        self._many = 0
        self._leaves = {}

    def _made(self, start, certain, parts):
        self._many = self._many + 1
        return Mix(self._many, start, certain, parts)

    def leaf(self, place):
        """What a leaf place without a rule is told."""
        mix = self._made(ZERO, False, [])
        mix.leaf_place = place
        mix.greatest = 1
        self._leaves[place] = mix
        return mix

    def is_whole(self, place):
        """Whether a place that no rule tells is told without being opened; here only leaf places are."""
        return False

    def check_rule(self, index, rule):
        """Refuses a rule that is not linear."""
        if not is_linear_node(rule.formula):
            raise Refused(("rule", index))

    def of_worth(self, worth):
        """What a formula of one worth tells."""
        return self._made(worth, True, [])

    def nothing(self):
        """What a formula without a worth tells."""
        return self._made(ZERO, False, [])

    def _joined(self, pairs):
        """The sum of the products of pairs (weight, mix)."""
        told = [(weight, mix) for weight, mix in pairs if not _is_nothing(mix)]
        if len(told) == 0:
            return self.nothing()
        if len(told) == 1 and told[0][0] == ONE:
            return told[0][1]
        start = summed([(weight, mix.start) for weight, mix in told])
        certain = any([mix.certain for weight, mix in told])
        joined = self._made(start, certain, [(weight, mix) for weight, mix in told if not _is_constant(mix)])
        _bound(joined)
        return joined

    def reckon(self, place, word, one, other):
        """What an operator of a linear formula tells."""
        if word == "plus":
            return self._joined([(ONE, one), (ONE, other)])
        if word == "minus":
            return self._joined([(ONE, one), (_MINUS_ONE, other)])
        if word == "over":
            return self._joined([(divided(ONE, other.start), one)])
        if _is_constant(one):
            return self._joined([(one.start, other)])
        return self._joined([(other.start, one)])

    def opened(self, place, pairs):
        """What an opened place is told, of pairs (weight, told)."""
        return self._joined(pairs)

    def check_told(self, place, told):
        """Refuses a place whose mix has a number of too many digits."""
        if told.checked:
            return
        if is_over_great(told.start):
            raise Refused(("great", place))
        if not _is_safe(told):
            self._settle(place, told)
        told.checked = True

    def _settle(self, place, told):
        """Works out the factors of a mix, which is made of leaf places alone from now on."""
        factors = factors_of(told)
        if any([is_over_great(factors[leaves]) for leaves in factors]):
            raise Refused(("great", place))
        told.parts = [(factors[leaves], self._leaves[leaves]) for leaves in factors]
        _bound_by(told, factors)
