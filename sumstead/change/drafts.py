"""Sides behind an edit, as their leaves and the rows of their hierarchies; the edit is one that can be made."""

from sumstead.base.reckoning import multiplied
from sumstead.base.worths import ONE


def _in_tree_order(rows):
    """The rows from the first one on: a group, all rows below its first child, then those below the next one."""
    table = {group: children for group, children in rows}
    found = []
    left = [rows[0][0]]
    while len(left) > 0:
        group = left.pop()
        found.append((group, table[group]))
        below = [child for child, _ in table[group] if child in table]
        left.extend(below[::-1])
    return tuple(found)


def _replaced(names, table):
    """Names in which each one that a table has becomes those that the table tells."""
    found = []
    for name in names:
        found.extend(table.get(name, (name,)))
    return tuple(found)


def _replaced_children(children, table):
    """Children in which each member that a table has becomes others of the same weight."""
    return tuple([(name, weight) for child, weight in children for name in table.get(child, (child,))])


def _replaced_rows(rows, table):
    return tuple([(group, _replaced_children(children, table)) for group, children in rows])


def _added(side, edit):
    return (side.leaves + (edit[2],), side.hierarchies)


def _everywhere(side, table):
    """The side with leaves replaced by others, in all hierarchies alike."""
    found = [(name, _replaced_rows(rows, table)) for name, rows in side.hierarchies]
    return (_replaced(side.leaves, table), tuple(found))


def _dropped(side, edit):
    return _everywhere(side, {edit[2]: ()})


def _split(side, edit):
    return _everywhere(side, {edit[2]: tuple([name for name, _ in edit[3]])})


def _renamed(side, edit):
    table = {edit[2]: (edit[3],)}
    leaves, hierarchies = _everywhere(side, table)
    found = []
    for name, rows in hierarchies:
        found.append((name, tuple([(_replaced((group,), table)[0], children) for group, children in rows])))
    return (leaves, tuple(found))


def _joining(names, leaves, name):
    """The table by which the first one of some leaves among names becomes another one, and the others go."""
    found = [one for one in names if one in leaves]
    table = {leaf: () for leaf in found}
    if len(found) > 0:
        table[found[0]] = (name,)
    return table


def _joined_rows(rows, leaves, name):
    found = []
    for group, children in rows:
        table = _joining([child for child, _ in children], leaves, name)
        found.append((group, _replaced_children(children, table)))
    return tuple(found)


def _joined(side, edit):
    leaves = _replaced(side.leaves, _joining(side.leaves, edit[2], edit[3]))
    found = [(name, _joined_rows(rows, edit[2], edit[3])) for name, rows in side.hierarchies]
    return (leaves, tuple(found))


def _with_rows(side, hierarchy, rows):
    """The side with other rows of one hierarchy."""
    found = [(name, rows if name == hierarchy else own) for name, own in side.hierarchies]
    return (side.leaves, tuple(found))


def _rows_of(side, hierarchy):
    return [rows for name, rows in side.hierarchies if name == hierarchy][0]


def _without(children, member):
    return tuple([(child, weight) for child, weight in children if child != member])


def _moved(side, edit):
    hierarchy, member, goal, index, weight = edit[2:]
    found = []
    for group, children in _rows_of(side, hierarchy):
        children = _without(children, member)
        if group == goal:
            children = children[:index] + ((member, weight),) + children[index:]
        found.append((group, children))
    return _with_rows(side, hierarchy, _in_tree_order(tuple(found)))


def _grouped(side, edit):
    hierarchy, members, name = edit[2:]
    parent = side.parent(members[0], hierarchy)
    found = []
    for group, children in _rows_of(side, hierarchy):
        if group == parent:
            begin = [child for child, _ in children].index(members[0])
            end = begin + len(members)
            found.append((group, children[:begin] + ((name, ONE),) + children[end:]))
            found.append((name, children[begin:end]))
        else:
            found.append((group, children))
    return _with_rows(side, hierarchy, _in_tree_order(tuple(found)))


def _ungrouped(side, edit):
    gone = edit[2]
    hierarchy = side.home(gone)
    found = []
    for group, children in _rows_of(side, hierarchy):
        if group != gone:
            found.append((group, _opened(side, children, gone)))
    return _with_rows(side, hierarchy, _in_tree_order(tuple(found)))


def _opened(side, children, gone):
    """Children in which those of a group take its place, their weights multiplied by its own."""
    found = []
    for child, weight in children:
        if child == gone:
            found.extend([(inner, multiplied(weight, part)) for inner, part in side.children(gone)])
        else:
            found.append((child, weight))
    return tuple(found)


def _weighed(side, edit):
    hierarchy, member, weight = edit[2:]
    found = []
    for group, children in _rows_of(side, hierarchy):
        found.append((group, tuple([(child, weight if child == member else own) for child, own in children])))
    return _with_rows(side, hierarchy, tuple(found))


_DRAFTS = {
    "add": _added, "drop": _dropped, "rename": _renamed, "move": _moved, "group": _grouped,
    "ungroup": _ungrouped, "split": _split, "join": _joined, "weight": _weighed,
}


def draft_behind(side, edit):
    """The leaves and the hierarchies of a side behind an edit."""
    draft = _DRAFTS[edit[0]]
    return draft(side, edit)


def shares_behind(edit):
    """The dict from the members that an edit changes to the pairs (leaf, share) of what becomes of a cell there."""
    word = edit[0]
    if word == "drop":
        return {edit[2]: ()}
    if word == "rename":
        return {edit[2]: ((edit[3], ONE),)}
    if word == "split":
        return {edit[2]: edit[3]}
    if word == "join":
        return {leaf: ((edit[3], ONE),) for leaf in edit[2]}
    return {}
