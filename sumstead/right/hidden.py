"""What is hidden: which cells can be worked out from what a viewer sees, and fillings that show that one cannot."""

from sumstead.base.ordered import by_keys
from sumstead.base.reckoning import opposite
from sumstead.base.worths import ONE, ZERO, is_worth
from sumstead.errors import InvalidPlace, TooMany
from sumstead.kept.solving import first_column, reduced, solved_rows
from sumstead.outline.outlines import check_outline
from sumstead.outline.trees import is_pair
from sumstead.plain.weights import leaf_weights, mixed_weights, told_by_leaves
from sumstead.right.views import check_right

_MOST_LEAF_PLACES = 300


class Sight:
    """The hidden leaf places as columns, and what the granted places tell of them as solved rows.

    Behind the columns of the leaf places a row has one for each granted place, which tells how it is made of them.
    """

    def __init__(self, outline, right):
        self.sight_outline = outline
        self.hidden_leaves = right.hidden
        self.told_places = right.granted
        self.all_spots = sorted([place for place in outline.leaf_places()])
        self.hidden_spots = [place for place in self.all_spots if self.is_hidden(place)]
        self.solved = []

    def is_hidden(self, leaf_place):
        """Whether a leaf place has a hidden leaf."""
        for name, leaf in zip(self.sight_outline.names, leaf_place):
            if leaf in self.hidden_leaves.get(name, ()):
                return True
        return False

    def solve(self):
        """Works out the solved rows."""
        rows = []
        for index, place in enumerate(self.told_places):
            weights = leaf_weights(self.sight_outline, place)
            made_of = [ONE if at == index else ZERO for at in range(len(self.told_places))]
            rows.append([weights.get(leaf_place, ZERO) for leaf_place in self.hidden_spots] + made_of)
        self.solved = solved_rows(rows, len(self.hidden_spots))

    def rest_of(self, leaf_place):
        """What is left of the row of a single hidden leaf place."""
        row = [ONE if column == leaf_place else ZERO for column in self.hidden_spots]
        return reduced(row + [ZERO] * len(self.told_places), self.solved)

    def free_column(self, rest):
        """The first column of a hidden leaf place at which a rest is not 0, or None."""
        return first_column(rest, len(self.hidden_spots))


def _sight_of(outline, right, leaf_place):
    check_outline(outline)
    check_right(outline, right)
    if not outline.is_leaf_place(leaf_place):
        raise InvalidPlace(leaf_place)
    return _solved_sight(outline, right)


def _solved_sight(outline, right):
    sight = Sight(outline, right)
    if len(sight.all_spots) > _MOST_LEAF_PLACES:
        raise TooMany(_MOST_LEAF_PLACES)
    sight.solve()
    return sight


def _mixture_of(sight, rest):
    """The mixture that a rest tells which has 0 at all hidden leaf places."""
    many = len(sight.hidden_spots)
    factors = {place: opposite(factor) for place, factor in zip(sight.told_places, rest[many:]) if factor != ZERO}
    sums = mixed_weights(sight.sight_outline, factors)
    # What the granted places have of leaf places that are seen is taken away again.
    for leaf_place in sums:
        if not sight.is_hidden(leaf_place):
            factors[leaf_place] = opposite(sums[leaf_place])
    return by_keys(factors)


def told_cell(outline, right, leaf_place):
    """A mixture of seen places that tells a cell, or None."""
    sight = _sight_of(outline, right, leaf_place)
    if not sight.is_hidden(leaf_place):
        return {leaf_place: ONE}
    rest = sight.rest_of(leaf_place)
    return _mixture_of(sight, rest) if sight.free_column(rest) is None else None


def _is_seen(sight, value):
    """Whether the value is a place that a viewer sees."""
    if value in sight.told_places:
        return True
    return sight.sight_outline.is_leaf_place(value) and not sight.is_hidden(value)


def is_told_cell(outline, right, leaf_place, value):
    """Whether the value is a mixture of seen places that tells a cell."""
    sight = _sight_of(outline, right, leaf_place)
    if type(value) is not dict or not all([_is_seen(sight, place) for place in value]):
        return False
    if not all([is_worth(value[place]) and value[place] != ZERO for place in value]):
        return False
    return mixed_weights(outline, value) == {leaf_place: ONE}


def hidden_fillings(outline, right, leaf_place):
    """Two fillings that are alike at all seen places and unlike at a leaf place, or None."""
    sight = _sight_of(outline, right, leaf_place)
    free = sight.free_column(sight.rest_of(leaf_place))
    if free is None:
        return None
    zeros = {place: ZERO for place in sight.all_spots}
    worths = {place: ZERO for place in sight.all_spots}
    worths[sight.hidden_spots[free]] = ONE
    # What the one leaf place adds to a solved row is taken away again at the column of this row.
    for column, row in sight.solved:
        worths[sight.hidden_spots[column]] = opposite(row[free])
    return (zeros, worths)


def _is_filling(sight, value):
    """Whether the value is a dict from all leaf places to worths."""
    if type(value) is not dict or len(value) != len(sight.all_spots):
        return False
    return all([place in value and is_worth(value[place]) for place in sight.all_spots])


def are_hidden_fillings(outline, right, leaf_place, value):
    """Whether the value is two fillings that are alike at all seen places and unlike at a leaf place."""
    sight = _sight_of(outline, right, leaf_place)
    if not is_pair(value) or not _is_filling(sight, value[0]) or not _is_filling(sight, value[1]):
        return False
    one, other = value
    if not all([one[place] == other[place] or sight.is_hidden(place) for place in sight.all_spots]):
        return False
    for place in sight.told_places:
        if told_by_leaves(outline, place, one) != told_by_leaves(outline, place, other):
            return False
    return one[leaf_place] != other[leaf_place]


def leaks(outline, right):
    """The hidden leaf places whose cells are told."""
    check_outline(outline)
    check_right(outline, right)
    sight = _solved_sight(outline, right)
    return tuple([place for place in sight.hidden_spots if sight.free_column(sight.rest_of(place)) is None])
