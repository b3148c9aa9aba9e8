"""Forms: what places that linear rules tell are told, whatever the cells are."""

from sumstead.base.reckoning import added, multiplied
from sumstead.base.worths import ONE, ZERO, is_cell_worth, is_name, is_over_great, is_worth, worth_text
from sumstead.errors import InvalidCells, InvalidOperation, InvalidRule
from sumstead.outline.outlines import MAX_PLACES, MAX_SIDES
from sumstead.plain.cubes import MAX_CELLS, check_cube_place
from sumstead.plain.formulas import is_formula
from sumstead.plain.mixes import MixWays, factors_of
from sumstead.plain.nodes import is_linear_node
from sumstead.plain.reading import Reader
from sumstead.plain.weights import is_order


def is_linear(formula):
    """Whether a formula is linear."""
    if not is_formula(formula):
        raise InvalidRule(formula)
    return is_linear_node(formula)


def _is_tuple_of_names(value):
    if type(value) is not tuple or not 1 <= len(value) <= MAX_SIDES:
        return False
    return all([is_name(name) for name in value])


def _is_short_worth(value):
    return is_worth(value) and not is_over_great(value)


def _are_weights(value):
    """Whether the value is a dict from tuples of names, all of one length, to worths."""
    if type(value) is not dict or len(value) > MAX_PLACES:
        return False
    if not all([_is_tuple_of_names(key) and _is_short_worth(value[key]) for key in value]):
        return False
    return len(set([len(key) for key in value])) <= 1


def _is_form(constant, weights, always):
    """Whether the values make a form."""
    if not _is_short_worth(constant) or not _are_weights(weights) or type(always) is not bool:
        return False
    if always:
        return all([weights[key] != ZERO for key in weights])
    return constant == ZERO


def _are_told_cells(value):
    """Whether the value is what a form tells at."""
    if type(value) is not dict or len(value) > MAX_CELLS:
        return False
    return all([_is_tuple_of_names(key) and is_cell_worth(value[key]) for key in value])


class Form:
    """A constant, weights of leaf places, and whether a worth is always there."""

    def __init__(self, constant, weights, always):
        if not _is_form(constant, weights, always):
            raise InvalidOperation("no form")
        self._constant = constant
        self._weights = {key: weights[key] for key in sorted(weights)}
        self._always = always

    @property
    def constant(self):
        """The constant."""
        return self._constant

    @property
    def weights(self):
        """The dict from leaf places to their weights."""
        return {key: self._weights[key] for key in self._weights}

    @property
    def always(self):
        """Whether the form is always there."""
        return self._always

    def at(self, cells):
        """What the form tells with some cells, a worth or None."""
        if not _are_told_cells(cells):
            raise InvalidCells(cells)
        total = self._constant if self._always else None
        for key in cells:
            if key in self._weights:
                total = added(total, multiplied(self._weights[key], cells[key]))
        return total

    def __len__(self):
        return len(self._weights)

    def __eq__(self, other):
        if not isinstance(other, Form):
            return False
        one = (self._constant, self._weights, self._always)
        return one == (other._constant, other._weights, other._always)

    def __str__(self):
        return f"form of {len(self._weights)} weights, constant {worth_text(self._constant)}"


def form_of(cube, place, *, order=None):
    """The form of a place by an order of sides."""
    check_cube_place(cube, place)
    if order is None:
        order = tuple(range(len(cube.outline)))
    if not is_order(cube.outline, order):
        raise InvalidOperation(order)
    mix = Reader(cube.outline, cube.rules, MixWays(), order).tell(place)
    return Form(mix.start, factors_of(mix), mix.certain)


def _check_forms(one, other):
    if not isinstance(one, Form):
        raise InvalidOperation(one)
    if not isinstance(other, Form):
        raise InvalidOperation(other)


def _key_of_unlike_weights(one, other):
    """A leaf place whose weights are unlike in two dicts."""
    for key in one:
        if key not in other or one[key] != other[key]:
            return key
    return None


def parting_of(one, other):
    """A parting dict of two forms, or None if they are equal."""
    _check_forms(one, other)
    if one == other:
        return None
    if one.at({}) != other.at({}):
        return {}
    key = _key_of_unlike_weights(one.weights, other.weights)
    if key is None:
        key = _key_of_unlike_weights(other.weights, one.weights)
    return {key: ONE}


def does_part(one, other, value):
    """Whether the value is a parting dict of two forms."""
    _check_forms(one, other)
    if not _are_told_cells(value) or len(value) > 1:
        return False
    return one.at(value) != other.at(value)
