"""A leaf place with unlike weights for one place in two outlines."""

from sumstead.base.reckoning import divided, multiplied
from sumstead.base.worths import ONE
from sumstead.plain.boxes import Box


def _first_leaves(tables):
    """The first leaf of each table."""
    return [list(table)[0] for table in tables]


def _with_leaf(leaves, index, leaf):
    return tuple(leaves[:index] + [leaf] + leaves[index + 1:])


def _lacking(tables, others):
    """A leaf place beneath by the tables, but not by the others, or None."""
    leaves = _first_leaves(tables)
    for index, table in enumerate(tables):
        for leaf in table:
            if leaf not in others[index]:
                return _with_leaf(leaves, index, leaf)
    return None


def parting_leaves(one, other, place):
    """A leaf place with unlike weights in both outlines, or None.

    Where the same leaves are beneath, the weights are alike exactly if the quotients of both weights
    are the same at all leaves of a side, for each side, and their product is 1.
    """
    tables = Box(one, place).leaf_tables
    others = Box(other, place).leaf_tables
    found = _lacking(tables, others)
    if found is None:
        found = _lacking(others, tables)
    if found is not None:
        return found
    leaves = _first_leaves(tables)
    product = ONE
    for index, table in enumerate(tables):
        quotient = divided(table[leaves[index]], others[index][leaves[index]])
        product = multiplied(product, quotient)
    if product != ONE:
        return tuple(leaves)
    return _unlike_at_a_side(tables, others, leaves)


def _unlike_at_a_side(tables, others, leaves):
    """A leaf place that parts, if the first leaf of each side does not."""
    for index, table in enumerate(tables):
        first = divided(table[leaves[index]], others[index][leaves[index]])
        for leaf in table:
            if divided(table[leaf], others[index][leaf]) != first:
                return _with_leaf(leaves, index, leaf)
    return None
