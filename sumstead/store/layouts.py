"""Layouts: in which block, and where in its row, each leaf place of an outline has its entry."""

from sumstead.base.ordered import are_ascending

_MOST_SEATS = 1000


def dense_indices(outline, value):
    """The indices of the sides that a tuple of names makes dense, or None if it makes none."""
    if type(value) is not tuple or not all([name in outline.names for name in value]):
        return None
    indices = [outline.index(name) for name in value]
    if not are_ascending(indices):
        return None
    many = 1
    for index in indices:
        many = many * len(outline.sides[index].leaves)
    return indices if many <= _MOST_SEATS else None


class Layout:
    """The leaves of the dense sides make the seats of a row, those of the other sides the keys of the blocks."""

    def __init__(self, outline, indices):
        self.layout_sides = outline.sides
        self.dense_at = indices
        self.key_at = [index for index in range(len(outline)) if index not in indices]
        self.choices = [()]
        for index in indices:
            self.choices = [begun + (leaf,) for begun in self.choices for leaf in outline.sides[index].leaves]
        self.seats = {choice: seat for seat, choice in enumerate(self.choices)}

    def key_of(self, leaf_place):
        """The key of the block of a leaf place."""
        return tuple([leaf_place[index] for index in self.key_at])

    def seat_of(self, leaf_place):
        """The index of a leaf place in the row of its block."""
        return self.seats[tuple([leaf_place[index] for index in self.dense_at])]

    def leaf_place_of(self, key, seat):
        """The leaf place of an index in the row of a block."""
        members = [None] * len(self.layout_sides)
        for index, member in zip(self.key_at, key):
            members[index] = member
        for index, member in zip(self.dense_at, self.choices[seat]):
            members[index] = member
        return tuple(members)

    def is_key(self, value):
        """Whether the value is the key of a block that there can be."""
        if type(value) is not tuple or len(value) != len(self.key_at):
            return False
        return all([self.layout_sides[index].is_leaf(member) for index, member in zip(self.key_at, value)])
