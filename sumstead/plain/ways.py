"""What the plain reading reckons with: worths, of cells that are there."""

from sumstead.base.reckoning import added, divided, is_less, multiplied, opposite, summed
from sumstead.base.worths import ZERO, is_over_great
from sumstead.errors import Refused


class WorthWays:
    """Reckons a reading in worths, and None for nothing."""

    def __init__(self, cells):
        self._cells = cells

    def leaf(self, place):
        """What a leaf place without a rule is told."""
        return self._cells.get(place, None)

    def is_whole(self, place):
        """Whether a place that no rule tells is told without being opened; here only leaf places are."""
        return False

    def check_rule(self, index, rule):
        """Lets each rule tell."""
        return None

    def of_worth(self, worth):
        """What a formula of one worth tells."""
        return worth

    def nothing(self):
        """What a formula without a worth tells."""
        return None

    def reckon(self, place, word, one, other):
        """What an operator tells in the reading of a place."""
        if word == "over" and one is not None and other == ZERO:
            raise Refused(("zero", place))
        result = _operate(word, one, other)
        if result is not None and is_over_great(result):
            raise Refused(("great", place))
        return result

    def holds(self, word, one, other):
        """Whether a comparison of two worths is true; with nothing it is not."""
        if one is None or other is None:
            return False
        if word == "same":
            return one == other
        return is_less(one, other)

    def is_there(self, told):
        """Whether what was told is not nothing."""
        return told is not None

    def opened(self, place, pairs):
        """What an opened place is told, of pairs (weight, told)."""
        total = summed(pairs)
        if total is not None and is_over_great(total):
            raise Refused(("great", place))
        return total

    def check_told(self, place, told):
        """Lets each place be told what its reading tells."""
        return None


def _operate(word, one, other):
    if word == "plus":
        return added(one, other)
    if word == "minus":
        return added(one, opposite(other))
    if word == "times":
        return multiplied(one, other)
    return divided(one, other)
