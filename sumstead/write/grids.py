"""Grids of two hierarchies: their lines, and the links between their members."""

from sumstead.base.worths import ONE


class Tree:
    """One hierarchy of a side."""

    def __init__(self, side, hierarchy):
        self.tree_rows = [rows for told, rows in side.hierarchies if told == hierarchy][0]
        self.top = self.tree_rows[0][0]
        self.nodes = {}
        for group, children in self.tree_rows:
            self.nodes[group] = True
            for child, _ in children:
                self.nodes[child] = True
        self.tree_leaves = [member for member in self.nodes if side.is_leaf(member)]
        self.tree_side = side


def leaves_below(tree, member):
    """The leaves below a member of a tree."""
    return [leaf for leaf, _ in tree.tree_side.under(member)]


def first_other_weight(tree):
    """The first child with another weight than 1, or None."""
    for _, children in tree.tree_rows:
        for child, weight in children:
            if weight != ONE:
                return child
    return None


def is_line(trees, value):
    """Whether the value is a line: a member of one tree, and the top of the other one."""
    if type(value) is not tuple or len(value) != 2 or not all([type(member) is str for member in value]):
        return False
    first, second = trees
    if value[0] == first.top and value[1] in second.nodes:
        return True
    return value[1] == second.top and value[0] in first.nodes


def is_seat(trees, value):
    """Whether the value is a leaf place of the grid."""
    if type(value) is not tuple or len(value) != 2 or not all([type(member) is str for member in value]):
        return False
    return all([member in tree.nodes and tree.tree_side.is_leaf(member) for tree, member in zip(trees, value)])


def tree_links(trees, totals):
    """The triples (from, to, pair or None) of the links between members of one tree, and from top to top.

    The ends are pairs (0 or 1 for the tree, member).
    """
    first, second = trees
    found = []
    for group, children in first.tree_rows:
        for child, _ in children:
            found.append(((0, group), (0, child), totals.get((child, second.top), None)))
    for group, children in second.tree_rows:
        for child, _ in children:
            found.append(((1, child), (1, group), totals.get((first.top, child), None)))
    found.append(((1, second.top), (0, first.top), totals.get((first.top, second.top), None)))
    return found


def joined_nodes(trees, links):
    """The dict from the ends of links to numbers, alike for ends that are joined by links without pairs."""
    numbers = {}
    for at, tree in enumerate(trees):
        for member in tree.nodes:
            numbers[(at, member)] = len(numbers)
    for one, other, pair in links:
        if pair is None and numbers[one] != numbers[other]:
            gone = numbers[other]
            for end in list(numbers):
                if numbers[end] == gone:
                    numbers[end] = numbers[one]
    return numbers
