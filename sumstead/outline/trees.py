"""Hierarchies: what is one over the leaves of a side, and what stands below its groups."""

from sumstead.base.reckoning import multiplied
from sumstead.base.worths import ONE, is_name, is_weight


def is_pair(value):
    """Whether the value is a tuple of two."""
    return type(value) is tuple and len(value) == 2


def are_names(value, least, most):
    """Whether the value is a tuple of different names, so many of them."""
    if type(value) is not tuple or not least <= len(value) <= most:
        return False
    if not all([is_name(name) for name in value]):
        return False
    return len(set(value)) == len(value)


def _is_child(value):
    return is_pair(value) and is_name(value[0]) and is_weight(value[1])


def _is_row(value):
    if not is_pair(value) or not is_name(value[0]) or type(value[1]) is not tuple:
        return False
    return len(value[1]) > 0 and all([_is_child(child) for child in value[1]])


def _are_rows(value, most):
    if type(value) is not tuple or not 1 <= len(value) <= most:
        return False
    return all([_is_row(row) for row in value])


def _hangs_together(leaves, rows, deepest):
    """Whether rows of the right form make one tree of at most so many steps."""
    depths = {rows[0][0]: 0}
    groups = {row[0]: True for row in rows}
    for group, children in rows:
        # A group that no row ahead has as a child has no depth yet.
        if group not in depths or depths[group] == deepest:
            return False
        for child, _ in children:
            if child in depths or (child not in groups and child not in leaves):
                return False
            depths[child] = depths[group] + 1
    return True


def is_hierarchy(leaves, value, most, deepest):
    """Whether the value is a pair (name, rows) of a hierarchy with at most so many groups and steps."""
    if not is_pair(value) or not is_name(value[0]) or not _are_rows(value[1], most):
        return False
    groups = tuple([row[0] for row in value[1]])
    if len(set(groups)) != len(groups):
        return False
    return _hangs_together({leaf: True for leaf in leaves}, value[1], deepest)


def groups_in(hierarchies):
    """All groups, hierarchy by hierarchy, in the order of their rows."""
    return tuple([row[0] for _, rows in hierarchies for row in rows])


def leaves_under(leaves, hierarchies):
    """The dict from all members to the pairs (leaf, weight) of the leaves below."""
    under = {leaf: ((leaf, ONE),) for leaf in leaves}
    for _, rows in hierarchies:
        # A group stands as a child in a row ahead of its own: the last rows have leaves alone.
        for group, children in reversed(rows):
            found = []
            for child, weight in children:
                found.extend([(leaf, multiplied(weight, part)) for leaf, part in under[child]])
            under[group] = tuple(found)
    return under


def parents_in(hierarchies):
    """The dict from pairs (member, hierarchy) to the groups of which the members are children."""
    parents = {}
    for name, rows in hierarchies:
        for group, children in rows:
            for child, _ in children:
                parents[(child, name)] = group
    return parents
