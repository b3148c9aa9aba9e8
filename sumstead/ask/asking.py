"""How questions are asked."""

from math import lcm

from sumstead.plain.moves import put


class Asker:
    """Asks questions for one side, at one place of a cube."""

    def __init__(self, cube, place, side):
        self.asked_cube = cube
        self.asked_at = place
        self.side_index = cube.outline.index(side)
        self.asked_side = cube.outline.side(side)

    def members_by(self, question):
        """The list of the members that a question tells; raises Refused for the first refusal."""
        tell = _TELLERS[question[0]]
        return tell(self, question)

    def read_at(self, member, node):
        """What a formula, or a test, tells at a member."""
        asked = put(self.asked_at, self.side_index, member)
        return self.asked_cube.read_node(asked, node)


def _all(asker, question):
    return list(asker.asked_side.members)


def _leaves(asker, question):
    return list(asker.asked_side.leaves)


def _members(asker, question):
    return list(question[1])


def _children_of(side, members):
    return [child for member in members for child, weight in side.children(member)]


def _children(asker, question):
    return _children_of(asker.asked_side, [question[1]])


def _under(asker, question):
    return [leaf for leaf, _ in asker.asked_side.under(question[1])]


def _top(side, hierarchy):
    for told, rows in side.hierarchies:
        if told == hierarchy:
            return rows[0][0]
    return None


def _level(asker, question):
    side = asker.asked_side
    found = [_top(side, question[1])]
    for _ in range(question[2]):
        found = _children_of(side, found)
    return found


def _union(asker, question):
    first = asker.members_by(question[1])
    second = asker.members_by(question[2])
    return first + [member for member in second if member not in first]


def _less(asker, question):
    first = asker.members_by(question[1])
    second = asker.members_by(question[2])
    return [member for member in first if member not in second]


def _meet(asker, question):
    first = asker.members_by(question[1])
    second = asker.members_by(question[2])
    return [member for member in first if member in second]


def _filter(asker, question):
    members = asker.members_by(question[1])
    return [member for member in members if asker.read_at(member, question[2])]


def _ordered(side, rows, sign):
    """The members of pairs (member, worth), ascending by the worths times a sign."""
    # Over one common bottom, fractions are ordered as their tops are.
    bottom = 1
    for _, worth in rows:
        bottom = lcm(bottom, worth[1])
    tops = [(sign * worth[0] * (bottom // worth[1]), side.seat(member), member) for member, worth in rows]
    return [row[2] for row in sorted(tops)]


def _split(asker, members, node):
    """The pairs (member, worth) of members with a worth, and the members with nothing."""
    told = [(member, asker.read_at(member, node)) for member in members]
    there = [(member, worth) for member, worth in told if worth is not None]
    return (there, [member for member, worth in told if worth is None])


def _order(asker, question):
    there, lacking = _split(asker, asker.members_by(question[1]), question[2])
    side = asker.asked_side
    seats = sorted([(side.seat(member), member) for member in lacking])
    sign = 1 if question[3] == "up" else -1
    return _ordered(side, there, sign) + [member for _, member in seats]


def _first(asker, question):
    return asker.members_by(question[1])[:question[2]]


def _best(asker, question):
    there, _ = _split(asker, asker.members_by(question[1]), question[3])
    return _ordered(asker.asked_side, there, -1)[:question[2]]


_TELLERS = {
    "all": _all, "leaves": _leaves, "members": _members, "children": _children, "under": _under,
    "level": _level, "union": _union, "less": _less, "meet": _meet, "filter": _filter,
    "order": _order, "first": _first, "best": _best,
}
