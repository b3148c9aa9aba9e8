"""Rules: a formula, for an area of places, with a rank."""

from sumstead.base.integers import is_between
from sumstead.base.worths import is_name
from sumstead.errors import InvalidNumber, InvalidPlace, InvalidRule
from sumstead.outline.outlines import MAX_SIDES, check_outline
from sumstead.plain.formulas import does_suit, is_formula, nodes_in

MAX_RULES = 30
MAX_RANK = 99

_MOST_NAMES = 90


def _is_entry(value):
    """Whether the value is None, or an ascending tuple of names."""
    if value is None:
        return True
    if type(value) is not tuple or not 1 <= len(value) <= _MOST_NAMES:
        return False
    if not all([is_name(name) for name in value]):
        return False
    return list(value) == sorted(set(value))


def _is_area(value):
    if type(value) is not tuple or not 1 <= len(value) <= MAX_SIDES:
        return False
    return all([_is_entry(entry) for entry in value])


class Rule:
    """A rule: it tells the places of its area by its formula."""

    def __init__(self, area, formula, rank=0):
        if not _is_area(area):
            raise InvalidRule(area)
        if not is_formula(formula):
            raise InvalidRule(formula)
        if not is_between(rank, 0, MAX_RANK):
            raise InvalidNumber(rank)
        self._area = area
        self._formula = formula
        self._rank = rank
        self._many = nodes_in(formula)

    @property
    def area(self):
        """For each side None, or the ascending tuple of the members."""
        return self._area

    @property
    def formula(self):
        """The formula."""
        return self._formula

    @property
    def rank(self):
        """The rank."""
        return self._rank

    def covers(self, place):
        """Whether the area has a place."""
        if type(place) is not tuple or len(place) != len(self._area):
            raise InvalidPlace(place)
        if not all([is_name(name) for name in place]):
            raise InvalidPlace(place)
        return all([entry is None or name in entry for name, entry in zip(place, self._area)])

    def suits(self, outline):
        """Whether the outline has all that the area and the formula tell."""
        check_outline(outline)
        if len(self._area) != len(outline):
            return False
        for side, entry in zip(outline.sides, self._area):
            if entry is not None and not all([name in side for name in entry]):
                return False
        return does_suit(outline, self._formula)

    def __eq__(self, other):
        if not isinstance(other, Rule):
            return False
        return (self._area, self._formula, self._rank) == (other._area, other._formula, other._rank)

    def __str__(self):
        return f"rule of rank {self._rank}, {self._many} nodes"
