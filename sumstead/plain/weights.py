"""Weights of leaves: what a place is told of, and in which orders of sides."""

from sumstead.base.reckoning import added, multiplied, summed
from sumstead.base.worths import ONE, ZERO
from sumstead.errors import InvalidOperation, InvalidPlace
from sumstead.outline.outlines import check_outline, check_place, is_cells, same_places
from sumstead.plain.boxes import Box, weight_in
from sumstead.plain.cubes import check_cube_place
from sumstead.plain.parting import parting_leaves
from sumstead.plain.reading import Reader
from sumstead.plain.ways import WorthWays

_MOST_PLACES = 100


def leaf_weights(outline, place):
    """The dict from the leaf places beneath a place to their weights."""
    check_outline(outline)
    check_place(outline, place)
    found = [((), ONE)]
    for side, member in zip(outline.sides, place):
        below = sorted(side.under(member))
        found = [(begun + (leaf,), multiplied(weight, part)) for begun, weight in found for leaf, part in below]
    return {leaf_place: weight for leaf_place, weight in found}


def mixed_weights(outline, factors):
    """The sums of the factors of places times their leaf weights, where these are not 0."""
    sums = {}
    for place in factors:
        weights = leaf_weights(outline, place)
        for leaf_place in weights:
            more = multiplied(factors[place], weights[leaf_place])
            sums[leaf_place] = added(sums.get(leaf_place, None), more)
    return {leaf_place: sums[leaf_place] for leaf_place in sums if sums[leaf_place] != ZERO}


def told_by_leaves(outline, place, filling):
    """What a place is told by its leaf weights and the worths of all leaf places."""
    weights = leaf_weights(outline, place)
    return summed([(weights[leaf_place], filling[leaf_place]) for leaf_place in weights])


def _members_beneath(side, member):
    """The dict of a member and all that stand below it."""
    found = {member: True}
    left = [member]
    while len(left) > 0:
        children = [child for child, _ in side.children(left.pop())]
        left.extend(children)
        for child in children:
            found[child] = True
    return found


def _meets(rule, beneath):
    """Whether the area of a rule has a place whose members are all in the dicts beneath."""
    for entry, below in zip(rule.area, beneath):
        if entry is not None and not any([name in below for name in entry]):
            return False
    return True


def is_clean(cube, place):
    """Whether no rule's area has a place beneath a place."""
    check_cube_place(cube, place)
    beneath = [_members_beneath(side, member) for side, member in zip(cube.outline.sides, place)]
    return not any([_meets(rule, beneath) for rule in cube.rules])


def answer_by_leaves(cube, place):
    """The answer of a clean place, told by leaf weights and cells."""
    if not is_clean(cube, place):
        raise InvalidOperation(place)
    cells = cube.cells
    box = Box(cube.outline, place)
    pairs = [(weight_in(box, leaf_place), cells[leaf_place]) for leaf_place in cells]
    total = summed([(weight, worth) for weight, worth in pairs if weight is not None])
    if total is None:
        return ("nothing",)
    return ("worth", total)


def is_order(outline, value):
    """Whether the value is an order of the sides of an outline."""
    if type(value) is not tuple or not all([type(index) is int for index in value]):
        return False
    return sorted(value) == list(range(len(outline)))


def answer_by(cube, place, order):
    """The answer at a place, with opened places opened by an order of sides."""
    check_cube_place(cube, place)
    if not is_order(cube.outline, order):
        raise InvalidOperation(order)
    return Reader(cube.outline, cube.rules, WorthWays(cube.cells), order).answer(place)


def _check_outlines(one, other, places):
    check_outline(one)
    check_outline(other)
    if type(places) is not tuple or not 1 <= len(places) <= _MOST_PLACES:
        raise InvalidPlace(places)
    if not all([place in one for place in places]):
        raise InvalidPlace(places)
    if not same_places(one, other):
        raise InvalidOperation("the outlines have unlike places")


def parting_cells(one, other, places):
    """Cells with one cell, at which some of the places has unlike answers in both outlines, or None."""
    _check_outlines(one, other, places)
    for place in places:
        leaf_place = parting_leaves(one, other, place)
        if leaf_place is not None:
            return {leaf_place: ONE}
    return None


def is_parting(one, other, places, value):
    """Whether the value is parting cells."""
    _check_outlines(one, other, places)
    if not is_cells(one, value) or len(value) != 1:
        return False
    for place in places:
        for leaf_place in value:
            worth = value[leaf_place]
            told = multiplied(weight_in(Box(one, place), leaf_place), worth)
            if told != multiplied(weight_in(Box(other, place), leaf_place), worth):
                return True
    return False
