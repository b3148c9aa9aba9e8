"""Why an edit cannot be made: the words of refusals, but the one for what is beyond bounds."""


def _is_child(side, hierarchy, member):
    """Whether the value is a child in a hierarchy of the side."""
    return hierarchy in side.names and member in side and side.parent(member, hierarchy) is not None


def _is_group_of(side, hierarchy, member):
    return member in side and side.home(member) == hierarchy


def is_top(side, member):
    """Whether a member is a group that is no child of another one."""
    home = side.home(member)
    return home is not None and side.parent(member, home) is None


def _knows_add(side, edit):
    return True


def _knows_leaf(side, edit):
    return side.is_leaf(edit[2])


def _knows_member(side, edit):
    return edit[2] in side


def _knows_move(side, edit):
    if not _is_group_of(side, edit[2], edit[4]):
        return False
    return side.is_leaf(edit[3]) or (_is_group_of(side, edit[2], edit[3]) and not is_top(side, edit[3]))


def _knows_group(side, edit):
    if edit[2] not in side.names:
        return False
    return all([member in side and not is_top(side, member) for member in edit[3]])


def _knows_ungroup(side, edit):
    return edit[2] in side and not side.is_leaf(edit[2]) and not is_top(side, edit[2])


def _knows_join(side, edit):
    return all([side.is_leaf(leaf) for leaf in edit[2]])


def _knows_weight(side, edit):
    return _is_child(side, edit[2], edit[3])


_KNOWS = {
    "add": _knows_add, "drop": _knows_leaf, "rename": _knows_member, "move": _knows_move, "group": _knows_group,
    "ungroup": _knows_ungroup, "split": _knows_leaf, "join": _knows_join, "weight": _knows_weight,
}


def _is_unknown(outline, edit):
    if edit[1] not in outline.names:
        return True
    knows = _KNOWS[edit[0]]
    return not knows(outline.side(edit[1]), edit)


def _names_in(edit):
    """The new names of an edit, and those that go."""
    word = edit[0]
    if word == "add":
        return ((edit[2],), ())
    if word == "rename":
        return ((edit[3],), (edit[2],))
    if word == "group":
        return ((edit[4],), ())
    if word == "split":
        return (tuple([name for name, _ in edit[3]]), (edit[2],))
    if word == "join":
        return ((edit[3],), edit[2])
    return ((), ())


def _is_taken(side, edit):
    new, gone = _names_in(edit)
    return any([name in side and name not in gone for name in new])


def _is_ring(side, edit):
    """Whether a member would be moved below itself."""
    if edit[0] != "move":
        return False
    group = edit[4]
    while group is not None:
        if group == edit[3]:
            return True
        group = side.parent(group, edit[2])
    return False


def _children_around(side, hierarchy, member):
    """The names of the children among which a member stands in a hierarchy, or None."""
    group = side.parent(member, hierarchy)
    return None if group is None else [child for child, _ in side.children(group)]


def _stand_together(side, hierarchy, members):
    """Whether members stand one behind the other among the children of one group."""
    row = _children_around(side, hierarchy, members[0])
    if row is None:
        return False
    begin = row.index(members[0])
    return row[begin:begin + len(members)] == list(members)


def _can_join(side, hierarchy, leaves):
    """Whether leaves are all away from a hierarchy, or all children of one group with one weight."""
    groups = [side.parent(leaf, hierarchy) for leaf in leaves]
    if not all([group == groups[0] for group in groups]):
        return False
    if groups[0] is None:
        return True
    weights = [weight for child, weight in side.children(groups[0]) if child in leaves]
    return all([weight == weights[0] for weight in weights])


def _is_apart(side, edit):
    if edit[0] == "group":
        return not _stand_together(side, edit[2], edit[3])
    if edit[0] == "join":
        return not all([_can_join(side, hierarchy, edit[2]) for hierarchy in side.names])
    return False


def _is_alone(side, hierarchy, member):
    """Whether a member is the only child of a group in a hierarchy."""
    row = _children_around(side, hierarchy, member)
    return row is not None and len(row) == 1


def _leaves_empty(side, edit):
    """Whether a group without children, or a side without leaves, would be left."""
    if edit[0] == "drop":
        return len(side.leaves) == 1 or any([_is_alone(side, hierarchy, edit[2]) for hierarchy in side.names])
    if edit[0] == "move":
        return side.parent(edit[3], edit[2]) != edit[4] and _is_alone(side, edit[2], edit[3])
    return False


def word_against(outline, edit):
    """The first word by which an edit is refused, or None; bounds are not looked at."""
    if _is_unknown(outline, edit):
        return "unknown"
    side = outline.side(edit[1])
    if _is_taken(side, edit):
        return "taken"
    if _is_ring(side, edit):
        return "ring"
    if _is_apart(side, edit):
        return "apart"
    return "empty" if _leaves_empty(side, edit) else None
