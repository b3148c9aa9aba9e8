"""Several written totals at once: a filling of the leaf places beneath, or a cut that bars all fillings."""

from sumstead.base.integers import is_between
from sumstead.base.ordered import are_ascending, by_keys
from sumstead.base.worths import is_worth
from sumstead.errors import InvalidOperation, InvalidOutline, InvalidPlace, Refused, TooMany
from sumstead.outline.outlines import check_outline
from sumstead.outline.trees import is_pair
from sumstead.write.flows import flow_along
from sumstead.write.grids import Tree, first_other_weight, is_line, is_seat, joined_nodes, leaves_below, tree_links

_MOST = 1000000000000000
_MOST_SEATS = 300


def _is_bound(value):
    """Whether the value is a pair of a least and a greatest number."""
    if not is_pair(value) or not is_between(value[0], -_MOST, _MOST):
        return False
    return is_between(value[1], value[0], _MOST)


def _are_hierarchies(outline, value):
    if not is_pair(value):
        return False
    return all([name in side.names for side, name in zip(outline.sides, value)])


def _are_totals(trees, value):
    """Whether the value is a dict from lines to pairs."""
    if type(value) is not dict:
        return False
    return all([is_line(trees, line) and _is_bound(value[line]) for line in value])


def _are_bounds(trees, value):
    """Whether the value is a dict from leaf places of the grid to pairs."""
    if type(value) is not dict:
        return False
    return all([is_seat(trees, leaf_place) and _is_bound(value[leaf_place]) for leaf_place in value])


def _are_members(tree, value):
    """Whether the value is an ascending tuple of members of a tree."""
    if type(value) is not tuple or not all([type(member) is str and member in tree.nodes for member in value]):
        return False
    return are_ascending(value)


class Totals:
    """Totals at lines of a grid, and bounds for its leaf places."""

    def __init__(self, outline, hierarchies, totals, *, bounds=None, rest=(0, 1000000)):
        check_outline(outline)
        if len(outline) != 2:
            raise InvalidOutline(outline)
        if not _are_hierarchies(outline, hierarchies):
            raise InvalidOperation(hierarchies)
        trees = [Tree(side, name) for side, name in zip(outline.sides, hierarchies)]
        if not _are_totals(trees, totals):
            raise InvalidOperation(totals)
        if bounds is not None and not _are_bounds(trees, bounds):
            raise InvalidOperation(bounds)
        if not _is_bound(rest):
            raise InvalidOperation(rest)
        for tree in trees:
            if first_other_weight(tree) is not None:
                raise Refused(("weight", first_other_weight(tree)))
        if len(trees[0].tree_leaves) * len(trees[1].tree_leaves) > _MOST_SEATS:
            raise TooMany(_MOST_SEATS)
        self._outline = outline
        self._hierarchies = hierarchies
        self._totals = by_keys(totals)
        self._bounds = {} if bounds is None else by_keys(bounds)
        self._rest = rest
        self._trees = trees
        self._grid = tuple(sorted([(one, other) for one in trees[0].tree_leaves for other in trees[1].tree_leaves]))

    @property
    def outline(self):
        """The outline."""
        return self._outline

    @property
    def hierarchies(self):
        """The names of the two hierarchies."""
        return self._hierarchies

    @property
    def totals(self):
        """The dict from lines to pairs."""
        return {line: self._totals[line] for line in self._totals}

    @property
    def bounds(self):
        """The dict from leaf places of the grid to pairs of their own."""
        return {leaf_place: self._bounds[leaf_place] for leaf_place in self._bounds}

    @property
    def rest(self):
        """The pair of all other leaf places of the grid."""
        return self._rest

    @property
    def grid(self):
        """The leaf places of the grid."""
        return self._grid

    def pair_at(self, leaf_place):
        """The pair of a leaf place of the grid."""
        if not is_seat(self._trees, leaf_place):
            raise InvalidPlace(leaf_place)
        return self._bounds.get(leaf_place, self._rest)

    def _links(self):
        """The triples (from, to, pair or None) of all links."""
        leaf_links = [((0, one), (1, other), self.pair_at((one, other))) for one, other in self._grid]
        return leaf_links + tree_links(self._trees, self._totals)

    def _solved(self):
        """The filling, and the cut: one of both is None."""
        links = self._links()
        numbers = joined_nodes(self._trees, links)
        # Links without pairs join their ends, so that none of them is left.
        bounded = [(numbers[one], numbers[other], pair[0], pair[1]) for one, other, pair in links if pair is not None]
        flow, barring = flow_along(len(numbers), bounded)
        if flow is not None:
            return ({leaf_place: (one, 1) for leaf_place, one in zip(self._grid, flow)}, None)
        barred = {node: True for node in barring}
        return (None, tuple([tuple(sorted([member for member in tree.nodes if numbers[(at, member)] in barred]))
                             for at, tree in enumerate(self._trees)]))

    def filling(self):
        """Worths for all leaf places of the grid that fit all pairs, or None."""
        found, _ = self._solved()
        return found

    def cut(self):
        """A cut, which shows that there is no filling, or None."""
        _, found = self._solved()
        return found

    def _sum_at(self, value, line):
        """The sum of a filling beneath a line."""
        firsts, seconds = [leaves_below(tree, member) for tree, member in zip(self._trees, line)]
        return sum([value[(one, other)][0] for one in firsts for other in seconds])

    def is_filling(self, value):
        """Whether the value is a filling."""
        if type(value) is not dict or len(value) != len(self._grid):
            return False
        if not all([is_seat(self._trees, key) and is_worth(value[key]) and value[key][1] == 1 for key in value]):
            return False
        for key in value:
            least, most = self.pair_at(key)
            if not least <= value[key][0] <= most:
                return False
        for line in self._totals:
            least, most = self._totals[line]
            if not least <= self._sum_at(value, line) <= most:
                return False
        return True

    def is_cut(self, value):
        """Whether the value is a cut."""
        if not is_pair(value) or not all([_are_members(tree, told) for tree, told in zip(self._trees, value)]):
            return False
        inside = {(at, member): True for at, told in enumerate(value) for member in told}
        over = 0
        for one, other, pair in self._links():
            if (one in inside) != (other in inside):
                if pair is None:
                    return False
                over = over + (pair[0] if one in inside else -pair[1])
        return over > 0

    def __contains__(self, value):
        return is_line(self._trees, value) and value in self._totals

    def __len__(self):
        return len(self._totals)

    def _all_pairs(self):
        return [self.pair_at(leaf_place) for leaf_place in self._grid]

    def __eq__(self, other):
        if not isinstance(other, Totals):
            return False
        one = (self._outline, self._hierarchies, self._totals, self._all_pairs())
        return one == (other._outline, other._hierarchies, other._totals, other._all_pairs())

    def __str__(self):
        return f"totals of {len(self._totals)} lines over {len(self._grid)} cells"
