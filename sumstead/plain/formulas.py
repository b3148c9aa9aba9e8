"""Formulas: what is one, and for which outlines."""

from sumstead.errors import InvalidRule
from sumstead.outline.outlines import check_outline
from sumstead.plain.nodes import FORMULA, TEST, is_node, node_suits, nodes_of, side_names

MAX_NODES = 60
MAX_DEPTH = 8


def is_formula(value):
    """Whether the value is a formula."""
    return is_node(value, FORMULA, MAX_NODES, MAX_DEPTH)


def is_test(value):
    """Whether the value is a test within the bounds of formulas."""
    return is_node(value, TEST, MAX_NODES, MAX_DEPTH)


def _check_formula(formula):
    if not is_formula(formula):
        raise InvalidRule(formula)


def nodes_in(formula):
    """The number of nodes of a formula."""
    _check_formula(formula)
    return len(nodes_of(formula))


def sides_in(formula):
    """The names of the sides that the moves and folds of a formula name, ascending."""
    _check_formula(formula)
    return tuple(sorted(set(side_names(formula))))


def does_suit(outline, value):
    """Whether the value is a formula that suits the outline."""
    check_outline(outline)
    return is_formula(value) and node_suits(outline, value)
