"""Formulas and tests as trees of nodes: their form, their bounds, the names in them, and others made of them."""

from sumstead.base.integers import is_passed_integer
from sumstead.base.worths import ZERO, is_name, is_worth
from sumstead.plain.moves import are_moves, is_span, move_suits, span_suits

FORMULA = "f"
TEST = "t"

_MOST_FOLDS = 2

# For each word the kinds of the parts behind it.
_FORMULAS = {"plus": "ff", "minus": "ff", "times": "ff", "over": "ff", "if": "tff"}
_TESTS = {"below": "ff", "same": "ff", "there": "f", "not": "t", "both": "tt", "either": "tt"}
_FOLDS = ("sum", "first", "last")

_NOTHING = ("nothing",)


def is_fold(node):
    """Whether a node is a fold."""
    return node[0] in _FOLDS


def _is_worth_node(node):
    if len(node) != 2 or not is_worth(node[1]):
        return False
    return is_passed_integer(node[1][0]) and is_passed_integer(node[1][1])


def _is_end(node):
    """Whether a formula without further nodes has its form."""
    if node[0] == "worth":
        return _is_worth_node(node)
    if node[0] == "at":
        return len(node) == 2 and are_moves(node[1])
    return node == ("nothing",)


def _has_form(node, kind):
    """Whether a value begins as a node of a kind, with as many parts as it should have."""
    if type(node) is not tuple or len(node) == 0 or type(node[0]) is not str:
        return False
    if kind == TEST:
        return node[0] in _TESTS and len(node) == 1 + len(_TESTS[node[0]])
    if node[0] in _FORMULAS:
        return len(node) == 1 + len(_FORMULAS[node[0]])
    if is_fold(node):
        return len(node) == 4 and is_name(node[1]) and is_span(node[2])
    return _is_end(node)


def parts_of(node):
    """The pairs (part, kind) of the nodes that are parts of a node."""
    if is_fold(node):
        return [(node[3], FORMULA)]
    kinds = _FORMULAS.get(node[0], _TESTS.get(node[0], ""))
    return list(zip(node[1:], kinds))


def is_node(value, kind, most, deepest):
    """Whether the value is a formula, or a test, of at most so many nodes and so deep."""
    left = [(value, kind, 1, 0)]
    many = 0
    while len(left) > 0:
        node, asked, depth, folds = left.pop()
        many += 1
        if many > most or depth > deepest or not _has_form(node, asked):
            return False
        if is_fold(node):
            folds += 1
        if folds > _MOST_FOLDS:
            return False
        left.extend([(part, its, depth + 1, folds) for part, its in parts_of(node)])
    return True


def nodes_of(node):
    """All nodes of a formula or a test, itself the first one."""
    left = [node]
    found = []
    while len(left) > 0:
        one = left.pop()
        found.append(one)
        left.extend([part for part, _ in parts_of(one)])
    return found


def side_names(node):
    """The names of the sides in the moves and folds of a formula or a test."""
    found = []
    for one in nodes_of(node):
        if one[0] == "at":
            found.extend([name for name, _ in one[1]])
        if is_fold(one):
            found.append(one[1])
    return found


def _suits(outline, node):
    if node[0] == "at":
        return all([move_suits(outline.side(name), move) for name, move in node[1]])
    if is_fold(node):
        return span_suits(outline.side(node[1]), node[2])
    return True


def node_suits(outline, node):
    """Whether an outline has all that a formula or a test names."""
    if not all([name in outline.names for name in side_names(node)]):
        return False
    return all([_suits(outline, one) for one in nodes_of(node)])


def is_linear_node(node):
    """Whether a formula is linear."""
    word = node[0]
    if word == "worth" or word == "nothing" or word == "at":
        return True
    if word == "plus" or word == "minus":
        return is_linear_node(node[1]) and is_linear_node(node[2])
    if word == "times":
        if node[1][0] != "worth" and node[2][0] != "worth":
            return False
        return is_linear_node(node[1]) and is_linear_node(node[2])
    if word == "over":
        return node[2][0] == "worth" and node[2][1] != ZERO and is_linear_node(node[1])
    return word == "sum" and is_linear_node(node[3])


def rebuilt(node, change):
    """A formula, or a test, with the moves and the spans that a change tells.

    The change has the methods `moves_for` and `span_for`, which tell None where the formula becomes nothing.
    """
    if node[0] == "at":
        moves = change.moves_for(node[1])
        return _NOTHING if moves is None else ("at", moves)
    if is_fold(node):
        span = change.span_for(node[1], node[2])
        return _NOTHING if span is None else (node[0], node[1], span, rebuilt(node[3], change))
    parts = [rebuilt(part, change) for part, _ in parts_of(node)]
    return node if len(parts) == 0 else (node[0], *parts)
