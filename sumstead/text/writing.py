"""The texts of formulas, tests and spans that are known to be such."""

from sumstead.base.worths import worth_text

# How closely an operator binds its operands.
_LEVELS = {"plus": 1, "minus": 1, "times": 2, "over": 2}
_SIGNS = {"plus": "+", "minus": "-", "times": "*", "over": "/", "below": "<", "same": "="}
_CLOSEST = 3


def _in_level(node, least):
    """The text of a formula, in parentheses if it binds less closely than asked."""
    text = node_text(node)
    if _LEVELS.get(node[0], _CLOSEST) < least:
        return f"({text})"
    return text


def _operator_text(node):
    level = _LEVELS.get(node[0], 0)
    # Operators of one level group to the left, so only the right operand has to bind more closely.
    return f"{_in_level(node[1], level)} {_SIGNS[node[0]]} {_in_level(node[2], level + 1)}"


def _move_text(pair):
    side, move = pair
    return f"{side} {move[0]} {move[1]}"


def _span_text(span):
    if span[0] == "members":
        return "of " + " ".join(span[1])
    if span[0] == "leaves":
        return "leaves"
    return f"{span[0]} {span[1]}"


def node_text(node):
    """The text of a formula or a test."""
    word = node[0]
    if word == "worth":
        return worth_text(node[1])
    if word == "nothing":
        return "nothing"
    if word == "at":
        moves = ", ".join([_move_text(pair) for pair in node[1]])
        return f"[{moves}]"
    if word in _SIGNS:
        return _operator_text(node)
    if word == "sum" or word == "first" or word == "last":
        return f"{word}({node[1]}, {_span_text(node[2])}, {node_text(node[3])})"
    parts = ", ".join([node_text(part) for part in node[1:]])
    return f"{word}({parts})"
