"""Boxes: the leaf places beneath a place, as one dict of weights for each side."""

from sumstead.base.reckoning import divided, multiplied
from sumstead.base.worths import ONE


class Box:
    """The leaf places beneath a place, with their weights."""

    def __init__(self, outline, place):
        self.source = place
        self.leaf_tables = []
        for side, member in zip(outline.sides, place):
            self.leaf_tables.append({leaf: weight for leaf, weight in side.under(member)})


def size_of(box):
    """How many leaf places a box has."""
    many = 1
    for table in box.leaf_tables:
        many = many * len(table)
    return many


def weight_in(box, leaf_place):
    """The weight of a leaf place, or None if the box lacks it."""
    weight = ONE
    for table, leaf in zip(box.leaf_tables, leaf_place):
        if leaf not in table:
            return None
        weight = multiplied(weight, table[leaf])
    return weight


def has_leaf_place(box, leaf_place):
    """Whether a box has a leaf place."""
    return all([leaf in table for table, leaf in zip(box.leaf_tables, leaf_place)])


def do_meet(one, other):
    """Whether two boxes have a leaf place together."""
    for table, twin in zip(one.leaf_tables, other.leaf_tables):
        if not any([leaf in twin for leaf in table]):
            return False
    return True


def _quotient(table, inner):
    """The one quotient of the weights at all leaves of an inner table, or None."""
    quotient = None
    for leaf in inner:
        if leaf not in table:
            return None
        told = divided(table[leaf], inner[leaf])
        if quotient is not None and told != quotient:
            return None
        quotient = told
    return quotient


def factor_of(box, inner):
    """The factor by which all weights of an inner box are those of the outer one there; None if there is none."""
    factor = ONE
    for table, within in zip(box.leaf_tables, inner.leaf_tables):
        # Weights are products over the sides: their quotients are alike exactly if they are at each side.
        factor = multiplied(factor, _quotient(table, within))
    return factor


def weights_of(box):
    """The pairs (leaf place, weight) of all leaf places of a box."""
    found = [((), ONE)]
    for table in box.leaf_tables:
        found = [(begun + (leaf,), multiplied(weight, table[leaf])) for begun, weight in found for leaf in table]
    return found
