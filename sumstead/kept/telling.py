"""What is told by what: mixtures of seen places, and fillings that show that there is none."""

from sumstead.base.integers import has_more_digits
from sumstead.base.ordered import by_keys
from sumstead.base.reckoning import opposite
from sumstead.base.worths import ONE, ZERO, is_worth
from sumstead.errors import InvalidCells, InvalidPlace, TooMany
from sumstead.kept.solving import first_column, reduced, solved_rows
from sumstead.outline.outlines import check_outline, check_place
from sumstead.outline.trees import is_pair
from sumstead.plain.weights import leaf_weights, mixed_weights, told_by_leaves

_MOST_SEEN = 12
_MOST_LEAF_PLACES = 300
_MOST_DIGITS = 4000


def _count_leaf_places(outline):
    many = 1
    for side in outline.sides:
        many = many * len(side.leaves)
    return many


def _is_filling_worth(value):
    if not is_worth(value):
        return False
    return not has_more_digits(value[0], _MOST_DIGITS) and not has_more_digits(value[1], _MOST_DIGITS)


def _is_filling(outline, value):
    """Whether the value is a filling of an outline."""
    if type(value) is not dict or len(value) != _count_leaf_places(outline):
        return False
    return all([outline.is_leaf_place(key) and _is_filling_worth(value[key]) for key in value])


def told(outline, place, filling):
    """What a place is told with a filling."""
    check_outline(outline)
    check_place(outline, place)
    if not _is_filling(outline, filling):
        raise InvalidCells(filling)
    return told_by_leaves(outline, place, filling)


def _are_seen(outline, value):
    """Whether the value is a tuple of seen places."""
    if type(value) is not tuple or len(value) > _MOST_SEEN or not all([place in outline for place in value]):
        return False
    return len(set(value)) == len(value)


def _check_seen(outline, place, seen):
    check_outline(outline)
    check_place(outline, place)
    if not _are_seen(outline, seen):
        raise InvalidPlace(seen)
    if _count_leaf_places(outline) > _MOST_LEAF_PLACES:
        raise TooMany(_MOST_LEAF_PLACES)


def _row_of(outline, place, leaf_places):
    """The leaf weights of a place as a row, 0 where a leaf place is not beneath it."""
    weights = leaf_weights(outline, place)
    return [weights.get(leaf_place, ZERO) for leaf_place in leaf_places]


def _solved(outline, place, seen):
    """The leaf places, the solved rows of the seen places, and what is left of the row of the place.

    Behind the leaf places a row has a column for each seen place, which tells how the row is made of them.
    """
    leaf_places = sorted([leaf_place for leaf_place in outline.leaf_places()])
    rows = []
    for index, one in enumerate(seen):
        made_of = [ONE if at == index else ZERO for at in range(len(seen))]
        rows.append(_row_of(outline, one, leaf_places) + made_of)
    solved = solved_rows(rows, len(leaf_places))
    rest = reduced(_row_of(outline, place, leaf_places) + [ZERO] * len(seen), solved)
    return (leaf_places, solved, rest)


def mixture(outline, place, seen):
    """A mixture of a place from just the seen places, or None."""
    _check_seen(outline, place, seen)
    leaf_places, _, rest = _solved(outline, place, seen)
    many = len(leaf_places)
    if first_column(rest, many) is not None:
        return None
    return by_keys({one: opposite(factor) for one, factor in zip(seen, rest[many:])})


def is_mixture(outline, place, seen, value):
    """Whether the value is a mixture of a place from just the seen places."""
    _check_seen(outline, place, seen)
    if type(value) is not dict or len(value) != len(seen):
        return False
    if not all([one in value and is_worth(value[one]) for one in seen]):
        return False
    return mixed_weights(outline, value) == leaf_weights(outline, place)


def unlike_fillings(outline, place, seen):
    """Two fillings with which the seen places are told alike and the place unlike, or None."""
    _check_seen(outline, place, seen)
    leaf_places, solved, rest = _solved(outline, place, seen)
    free = first_column(rest, len(leaf_places))
    if free is None:
        return None
    worths = [ZERO] * len(leaf_places)
    worths[free] = ONE
    # What the one leaf place adds to a solved row is taken away again at the column of this row.
    for column, row in solved:
        worths[column] = opposite(row[free])
    zeros = {leaf_place: ZERO for leaf_place in leaf_places}
    return (zeros, {leaf_place: one for leaf_place, one in zip(leaf_places, worths)})


def are_unlike_fillings(outline, place, seen, value):
    """Whether the value is two fillings with which the seen places are told alike and the place unlike."""
    _check_seen(outline, place, seen)
    if not is_pair(value) or not _is_filling(outline, value[0]) or not _is_filling(outline, value[1]):
        return False
    if not all([told_by_leaves(outline, one, value[0]) == told_by_leaves(outline, one, value[1]) for one in seen]):
        return False
    return told_by_leaves(outline, place, value[0]) != told_by_leaves(outline, place, value[1])
