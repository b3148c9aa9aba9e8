"""Spreads: a total that is written at a place, shared out on the leaf places beneath it."""

from sumstead.base.integers import has_more_digits
from sumstead.base.ordered import by_keys
from sumstead.base.reckoning import added, divided, multiplied
from sumstead.base.worths import ONE, ZERO, is_cell_worth, is_worth
from sumstead.errors import InvalidOperation, InvalidWorth, Refused, TooMany
from sumstead.plain.boxes import Box, has_leaf_place, size_of, weight_in
from sumstead.plain.cubes import check_cube_place
from sumstead.plain.moves import put
from sumstead.plain.weights import is_clean
from sumstead.write.shares import first_rounding, is_fair

_MOST_BENEATH = 1000
_MOST_DIGITS = 15
_MOST_BOTTOM = 1000


def _are_parts(outline, box, value):
    """Whether the value is a dict from leaf places of a box to cell worths of at least 0."""
    if type(value) is not dict:
        return False
    if not all([outline.is_leaf_place(key) and has_leaf_place(box, key) for key in value]):
        return False
    return all([is_cell_worth(value[key]) and value[key][0] >= 0 for key in value])


def _is_way(cube, place, value):
    """Whether the value is a way to spread on the leaf places beneath a place."""
    if type(value) is not tuple or len(value) == 0:
        return False
    outline = cube.outline
    if value[0] == "like":
        return len(value) == 3 and value[1] in outline.names and outline.side(value[1]).is_leaf(value[2])
    if value[0] == "parts":
        return len(value) == 2 and _are_parts(outline, Box(outline, place), value[1])
    return value == ("even",) or value == ("own",)


def _check_way(cube, place, way):
    if not _is_way(cube, place, way):
        raise InvalidOperation(way)


def _is_short(value):
    """Whether the value is a worth that can be spread."""
    return is_worth(value) and not has_more_digits(value[0], _MOST_DIGITS) and value[1] <= _MOST_BOTTOM


def _beneath(outline, box):
    """The leaf places of a box, in the order of the outline."""
    found = [()]
    for side, table in zip(outline.sides, box.leaf_tables):
        found = [begun + (leaf,) for begun in found for leaf in side.leaves if leaf in table]
    return found


def _part(cube, cells, way, leaf_place):
    """The part of a leaf place by a way."""
    if way[0] == "even":
        return ONE
    if way[0] == "parts":
        return way[1].get(leaf_place, ZERO)
    if way[0] == "like":
        leaf_place = put(leaf_place, cube.outline.index(way[1]), way[2])
    return cells.get(leaf_place, ZERO)


def _parts_in_order(cube, place, way):
    """The dict from the leaf places beneath, in the order of the outline, to their parts; it can be refused."""
    box = Box(cube.outline, place)
    if size_of(box) > _MOST_BENEATH:
        raise TooMany(_MOST_BENEATH)
    if not is_clean(cube, place):
        raise Refused(("rule",))
    cells = cube.cells
    leaf_places = _beneath(cube.outline, box)
    for leaf_place in leaf_places:
        if weight_in(box, leaf_place) != ONE:
            raise Refused(("weight", leaf_place))
    parts = {leaf_place: _part(cube, cells, way, leaf_place) for leaf_place in leaf_places}
    for leaf_place in leaf_places:
        if parts[leaf_place][0] < 0:
            raise Refused(("below", leaf_place))
    if all([parts[leaf_place] == ZERO for leaf_place in leaf_places]):
        raise Refused(("empty",))
    return parts


def parts_of(cube, place, way):
    """The dict from the leaf places beneath a place to their parts."""
    check_cube_place(cube, place)
    _check_way(cube, place, way)
    return by_keys(_parts_in_order(cube, place, way))


def _shares_of(parts, total):
    """The exact shares of parts, in their order."""
    whole = ZERO
    for leaf_place in parts:
        whole = added(whole, parts[leaf_place])
    quotient = divided(total, whole)
    return {leaf_place: multiplied(quotient, parts[leaf_place]) for leaf_place in parts}


def _check_total(cube, place, total, way):
    check_cube_place(cube, place)
    if not _is_short(total):
        raise InvalidWorth(total)
    _check_way(cube, place, way)


def exact_shares(cube, place, total, way):
    """The dict from the leaf places beneath a place to their exact shares of a total."""
    _check_total(cube, place, total, way)
    return by_keys(_shares_of(_parts_in_order(cube, place, way), total))


def _shares_in_units(cube, place, total, way, unit):
    """The exact shares of the leaf places with a part, in order, and the dict of all parts."""
    _check_total(cube, place, total, way)
    if not _is_short(unit) or unit[0] <= 0:
        raise InvalidWorth(unit)
    parts = _parts_in_order(cube, place, way)
    if divided(total, unit)[1] != 1:
        raise Refused(("unit",))
    shares = _shares_of(parts, total)
    return ({leaf_place: shares[leaf_place] for leaf_place in parts if parts[leaf_place] != ZERO}, parts)


def spread(cube, place, total, way, *, unit=(1, 1)):
    """The changes of the first spread of a total on the leaf places beneath a place."""
    shares, parts = _shares_in_units(cube, place, total, way, unit)
    rounded = first_rounding([shares[leaf_place] for leaf_place in shares], unit)
    told = {leaf_place: worth for leaf_place, worth in zip(shares, rounded)}
    return {leaf_place: told.get(leaf_place, None) for leaf_place in sorted(parts)}


def is_spread(cube, place, total, way, value, *, unit=(1, 1)):
    """Whether the value is the changes of a fair spread of a total."""
    shares, parts = _shares_in_units(cube, place, total, way, unit)
    if type(value) is not dict or len(value) != len(parts) or not all([key in parts for key in value]):
        return False
    whole = ZERO
    for leaf_place in parts:
        worth = value[leaf_place]
        if leaf_place not in shares and worth is not None:
            return False
        if leaf_place in shares:
            if not is_worth(worth) or not is_fair(shares[leaf_place], unit, worth):
                return False
            whole = added(whole, worth)
    return whole == total
