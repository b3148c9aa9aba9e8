"""Sides and outlines: the members of a cube, and its places."""

from sumstead.base.integers import is_passed_integer
from sumstead.base.worths import is_cell_worth, is_name
from sumstead.errors import InvalidNumber, InvalidOutline, InvalidPlace, UnknownName
from sumstead.outline.trees import are_names, groups_in, is_hierarchy, leaves_under, parents_in

MAX_SIDES = 5
MAX_LEAVES = 30
MAX_HIERARCHIES = 3
MAX_GROUPS = 20
MAX_DEEP = 6
MAX_PLACES = 20000

_MOST_CELLS = 300


def _are_different(names):
    return len(set(names)) == len(names)


def _is_side(name, leaves, hierarchies):
    """Whether the values make a side."""
    if not is_name(name) or not are_names(leaves, 1, MAX_LEAVES):
        return False
    if type(hierarchies) is not tuple or len(hierarchies) > MAX_HIERARCHIES:
        return False
    if not all([is_hierarchy(leaves, hierarchy, MAX_GROUPS, MAX_DEEP) for hierarchy in hierarchies]):
        return False
    if not _are_different([hierarchy[0] for hierarchy in hierarchies]):
        return False
    return _are_different(list(leaves + groups_in(hierarchies)))


def _are_sides(value):
    """Whether the value is a tuple of sides that make an outline."""
    if type(value) is not tuple or not 1 <= len(value) <= MAX_SIDES:
        return False
    if not all([isinstance(side, Side) for side in value]):
        return False
    return _are_different([side.name for side in value]) and _count(value) <= MAX_PLACES


def _count(sides):
    """How many places the sides have."""
    many = 1
    for side in sides:
        many = many * len(side)
    return many


def _all_tuples(rows):
    """All tuples of one member of each row, the last member changing first."""
    found = [()]
    for row in rows:
        found = [begun + (member,) for begun in found for member in row]
    return found


class Side:
    """A side of an outline: leaves in order, and hierarchies over them."""

    def __init__(self, name, leaves, hierarchies=()):
        if not _is_side(name, leaves, hierarchies):
            raise InvalidOutline("no side")
        self._name = name
        self._leaves = leaves
        self._hierarchies = hierarchies
        self._names = tuple([hierarchy[0] for hierarchy in hierarchies])
        self._members = leaves + groups_in(hierarchies)
        self._seats = {member: index for index, member in enumerate(self._members)}
        self._rows = {group: children for _, rows in hierarchies for group, children in rows}
        self._homes = {row[0]: home for home, rows in hierarchies for row in rows}
        self._parents = parents_in(hierarchies)
        self._under = leaves_under(leaves, hierarchies)

    @property
    def name(self):
        """The name of the side."""
        return self._name

    @property
    def leaves(self):
        """The leaves in order."""
        return self._leaves

    @property
    def hierarchies(self):
        """The pairs (name, rows) of the hierarchies."""
        return self._hierarchies

    @property
    def names(self):
        """The names of the hierarchies in order."""
        return self._names

    @property
    def members(self):
        """The leaves in order, then the groups."""
        return self._members

    def _check_member(self, member):
        if member not in self:
            raise UnknownName(member)

    def children(self, member):
        """The pairs (child, weight) of a group; none for a leaf."""
        self._check_member(member)
        return self._rows.get(member, ())

    def home(self, member):
        """The name of the hierarchy of a group; None for a leaf."""
        self._check_member(member)
        return self._homes.get(member, None)

    def under(self, member):
        """The pairs (leaf, weight) of all leaves below a group, or of a leaf itself."""
        self._check_member(member)
        return self._under[member]

    def parent(self, member, hierarchy):
        """The group of which the member is a child in a hierarchy, or None."""
        self._check_member(member)
        if hierarchy not in self._names:
            raise UnknownName(hierarchy)
        return self._parents.get((member, hierarchy), None)

    def step(self, member, count):
        """The leaf that stands so many leaves behind a leaf, or None."""
        self._check_member(member)
        if not is_passed_integer(count):
            raise InvalidNumber(count)
        seat = self._seats[member]
        if seat >= len(self._leaves) or not 0 <= seat + count < len(self._leaves):
            return None
        return self._leaves[seat + count]

    def seat(self, member):
        """The index of a member among all members."""
        self._check_member(member)
        return self._seats[member]

    def is_leaf(self, value):
        """Whether the value is a leaf of the side."""
        return value in self and value not in self._rows

    def __contains__(self, value):
        return type(value) is str and value in self._seats

    def __len__(self):
        return len(self._members)

    def __iter__(self):
        return iter(self._members)

    def __eq__(self, other):
        if not isinstance(other, Side):
            return False
        one = (self._name, self._leaves, self._hierarchies)
        return one == (other._name, other._leaves, other._hierarchies)

    def __str__(self):
        return f"side {self._name} of {len(self._leaves)} leaves, {len(self._hierarchies)} hierarchies"


class Outline:
    """An outline: one to five sides, whose members make its places."""

    def __init__(self, sides):
        if not _are_sides(sides):
            raise InvalidOutline("no outline")
        self._sides = sides
        self._names = tuple([side.name for side in sides])
        self._total = _count(sides)

    @property
    def sides(self):
        """The sides in order."""
        return self._sides

    @property
    def names(self):
        """The names of the sides in order."""
        return self._names

    @property
    def total(self):
        """The number of places."""
        return self._total

    def index(self, name):
        """The index of the side with a name."""
        if name not in self._names:
            raise UnknownName(name)
        return self._names.index(name)

    def side(self, name):
        """The side with a name."""
        return self._sides[self.index(name)]

    def has_leaves(self, place):
        """Whether a place is a leaf place."""
        check_place(self, place)
        return self.is_leaf_place(place)

    def is_leaf_place(self, value):
        """Whether the value is a leaf place of the outline."""
        if value not in self:
            return False
        return all([side.is_leaf(member) for side, member in zip(self._sides, value)])

    def with_member(self, place, name, member):
        """The place with another member at the side with a name."""
        check_place(self, place)
        index = self.index(name)
        if member not in self._sides[index]:
            raise UnknownName(member)
        return place[:index] + (member,) + place[index + 1:]

    def places(self):
        """All places in order."""
        yield from _all_tuples([side.members for side in self._sides])

    def leaf_places(self):
        """All leaf places in order."""
        yield from _all_tuples([side.leaves for side in self._sides])

    def __contains__(self, value):
        if type(value) is not tuple or len(value) != len(self._sides):
            return False
        return all([member in side for side, member in zip(self._sides, value)])

    def __len__(self):
        return len(self._sides)

    def __eq__(self, other):
        return isinstance(other, Outline) and self._sides == other._sides

    def __str__(self):
        told = [f"{side.name} {len(side)}" for side in self._sides]
        return f"outline of {', '.join(told)}"


def check_outline(outline):
    """Refuses what is no outline."""
    if not isinstance(outline, Outline):
        raise InvalidOutline(outline)


def check_place(outline, place):
    """Refuses what is no place of the outline."""
    if place not in outline:
        raise InvalidPlace(place)


def is_cells(outline, value):
    """Whether the value is cells of the outline."""
    check_outline(outline)
    if type(value) is not dict or len(value) > _MOST_CELLS:
        return False
    return all([outline.is_leaf_place(place) and is_cell_worth(value[place]) for place in value])


def same_places(one, other):
    """Whether two outlines have equal places."""
    check_outline(one)
    check_outline(other)
    if len(one) != len(other):
        return False
    return all([_have_same_members(side, twin) for side, twin in zip(one.sides, other.sides)])


def _have_same_members(side, twin):
    if sorted(side.leaves) != sorted(twin.leaves):
        return False
    return sorted(side.members) == sorted(twin.members)
