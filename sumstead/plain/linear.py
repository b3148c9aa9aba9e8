"""Which formulas are linear."""

from sumstead.base.worths import ZERO


def is_linear_node(node):
    """Whether a formula is linear."""
    word = node[0]
    if word == "worth" or word == "nothing" or word == "at":
        return True
    if word == "plus" or word == "minus":
        return is_linear_node(node[1]) and is_linear_node(node[2])
    if word == "times":
        if node[1][0] != "worth" and node[2][0] != "worth":
            return False
        return is_linear_node(node[1]) and is_linear_node(node[2])
    if word == "over":
        return node[2][0] == "worth" and node[2][1] != ZERO and is_linear_node(node[1])
    return word == "sum" and is_linear_node(node[3])
