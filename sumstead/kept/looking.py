"""What the wide reading looks at: for each place a tree of all that its reading can ask.

A tree is ("known", level), ("place", place), ("most", trees), ("least", one, other) of a product, ("share", one,
other) of a quotient, or ("choice", branches, operands of the test). The levels of words ascend as the words do.
"""

from sumstead.base.worths import ZERO
from sumstead.plain.moves import moved, put, span_members
from sumstead.plain.nodes import is_fold, nodes_of

NOTHING = 0
THERE = 1
TROUBLE = 2


def _operands_of(test):
    """The formulas of which a test tells something."""
    word = test[0]
    if word == "below" or word == "same":
        return [test[1], test[2]]
    if word == "there":
        return [test[1]]
    found = []
    for part in test[1:]:
        found = found + _operands_of(part)
    return found


def _fold_tree(outline, asked, node):
    index = outline.index(node[1])
    members = span_members(outline.sides[index], asked[index], node[2])
    return ("most", [_tree(outline, put(asked, index, member), node[3]) for member in members])


def _choice_tree(outline, asked, node):
    branches = [_tree(outline, asked, part) for part in node[2:]]
    return ("choice", branches, [_tree(outline, asked, part) for part in _operands_of(node[1])])


def _tree(outline, asked, node):
    """The tree of a formula at an asked place."""
    word = node[0]
    if word == "worth":
        return ("known", THERE)
    if word == "nothing":
        return ("known", NOTHING)
    if word == "at":
        goal = moved(outline, asked, node[1])
        return ("known", NOTHING) if goal is None else ("place", goal)
    if word == "if":
        return _choice_tree(outline, asked, node)
    if is_fold(node):
        return _fold_tree(outline, asked, node)
    one = _tree(outline, asked, node[1])
    other = _tree(outline, asked, node[2])
    if word == "plus" or word == "minus":
        return ("most", [one, other])
    if word == "times":
        return ("least", one, other)
    if node[2][0] == "worth" and node[2][1] != ZERO:
        return one
    return ("share", one, other)


def has_choice(formula):
    """Whether an `if` stands in a formula."""
    return any([node[0] == "if" for node in nodes_of(formula)])


def opened_tree(outline, place):
    """The tree of a place that is opened, or None for a leaf place."""
    for index, side in enumerate(outline.sides):
        if not side.is_leaf(place[index]):
            return ("most", [("place", put(place, index, child)) for child, _ in side.children(place[index])])
    return None


def formula_tree(outline, place, formula):
    """The tree of a place that a rule tells."""
    return _tree(outline, place, formula)


def asks_of(tree):
    """The places that stand in a tree, each once, in order."""
    found = {}
    left = [tree]
    while len(left) > 0:
        one = left.pop()
        if one[0] == "place":
            found[one[1]] = True
        elif one[0] == "most":
            left.extend(one[1][::-1])
        elif one[0] == "choice":
            left.extend(one[2][::-1] + one[1][::-1])
        elif one[0] != "known":
            left.extend([one[2], one[1]])
    return list(found)


def level_of(tree, levels):
    """The level of a tree, by a dict from places to their levels."""
    word = tree[0]
    if word == "place":
        return levels[tree[1]]
    if word == "known":
        return tree[1]
    if word == "most":
        return max([NOTHING] + [level_of(part, levels) for part in tree[1]])
    if word == "choice":
        if any([level_of(part, levels) == TROUBLE for part in tree[2]]):
            return TROUBLE
        return max([level_of(part, levels) for part in tree[1]])
    one = level_of(tree[1], levels)
    other = level_of(tree[2], levels)
    if one == TROUBLE or other == TROUBLE:
        return TROUBLE
    if word == "least":
        return min(one, other)
    return TROUBLE if one == THERE and other == THERE else NOTHING
