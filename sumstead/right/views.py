"""Views: what a viewer is answered who may not see all leaves."""

from sumstead.base.integers import is_between
from sumstead.base.ordered import are_ascending, by_keys
from sumstead.base.worths import is_name
from sumstead.errors import InvalidPlace, InvalidQuestion
from sumstead.outline.outlines import MAX_SIDES, Outline, check_outline
from sumstead.plain.cubes import Cube, check_cube
from sumstead.right.cutting import cut_rules, cut_side

MAX_GRANTED = 20


def _are_names(value):
    """Whether the value is an ascending tuple of one or more names."""
    if type(value) is not tuple or len(value) == 0 or not all([is_name(name) for name in value]):
        return False
    return are_ascending(value)


def _is_hidden(value):
    """Whether the value tells the hidden leaves of sides."""
    if type(value) is not dict or len(value) > MAX_SIDES:
        return False
    return all([is_name(name) and _are_names(value[name]) for name in value])


def _is_far_place(value):
    """Whether the value can be a place of some outline."""
    if type(value) is not tuple or not is_between(len(value), 1, MAX_SIDES):
        return False
    return all([is_name(name) for name in value])


def _are_granted(value):
    if type(value) is not tuple or len(value) > MAX_GRANTED or not all([_is_far_place(place) for place in value]):
        return False
    return are_ascending(value)


class Right:
    """What a viewer may see: leaves that are hidden, and places that are told whole."""

    def __init__(self, hidden, granted=()):
        if not _is_hidden(hidden) or not _are_granted(granted):
            raise InvalidQuestion("no right")
        self._hidden = by_keys(hidden)
        self._granted = granted

    @property
    def hidden(self):
        """The dict from names of sides to their hidden leaves."""
        return {name: self._hidden[name] for name in self._hidden}

    @property
    def granted(self):
        """The places that are told whole."""
        return self._granted

    def suits(self, outline):
        """Whether an outline has the hidden leaves, more than these, and the granted places."""
        check_outline(outline)
        for name in self._hidden:
            if name not in outline.names or not _has_more(outline.side(name), self._hidden[name]):
                return False
        return all([place in outline for place in self._granted])

    def __eq__(self, other):
        if not isinstance(other, Right):
            return False
        return (self._hidden, self._granted) == (other._hidden, other._granted)

    def __str__(self):
        leaves = [leaf for name in self._hidden for leaf in self._hidden[name]]
        return f"right with {len(leaves)} hidden leaves, {len(self._granted)} granted places"


def _has_more(side, leaves):
    """Whether a side has some leaves, and at least one more."""
    return all([side.is_leaf(leaf) for leaf in leaves]) and len(leaves) < len(side.leaves)


def check_right(outline, right):
    """Refuses what is no right that suits an outline."""
    if not isinstance(right, Right) or not right.suits(outline):
        raise InvalidQuestion(right)


def _cut(outline, right):
    hidden = right.hidden
    return Outline(tuple([cut_side(side, hidden.get(side.name, ())) for side in outline.sides]))


def cut_outline(outline, right):
    """The outline without the hidden leaves, and without what is empty then."""
    check_outline(outline)
    check_right(outline, right)
    return _cut(outline, right)


def cut_cube(cube, right):
    """The cube without the hidden leaves: its cells and rules as far as they are left."""
    check_cube(cube)
    check_right(cube.outline, right)
    outline = _cut(cube.outline, right)
    cells = cube.cells
    left = {place: cells[place] for place in cells if outline.is_leaf_place(place)}
    return Cube(outline, cut_rules(outline, cube.rules), left)


class View:
    """A cube as a viewer sees it: the cut cube, and the granted places of the whole one."""

    def __init__(self, cube, right):
        self._cut_cube = cut_cube(cube, right)
        self._right = right
        self._told_whole = {place: cube.answer(place) for place in right.granted}
        places = [place for place in self._cut_cube.outline.places()]
        self._seen = tuple(sorted(set(places + list(right.granted))))

    @property
    def cube(self):
        """The cut cube."""
        return self._cut_cube

    @property
    def right(self):
        """The right of the viewer."""
        return self._right

    @property
    def seen(self):
        """The places that can be asked."""
        return self._seen

    def answer(self, place):
        """The answer at a place: of the whole cube if it is granted, otherwise of the cut one."""
        if place not in self:
            raise InvalidPlace(place)
        if place in self._told_whole:
            return self._told_whole[place]
        return self._cut_cube.answer(place)

    def __contains__(self, value):
        return value in self._cut_cube.outline or value in self._right.granted

    def __len__(self):
        return len(self._seen)

    def __eq__(self, other):
        if not isinstance(other, View):
            return False
        one = (self._cut_cube, self._right, self._told_whole)
        return one == (other._cut_cube, other._right, other._told_whole)

    def __str__(self):
        return f"view of {len(self._seen)} places"
