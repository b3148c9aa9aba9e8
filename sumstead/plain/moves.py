"""Moves and spans: what is one, what it names, and where it leads."""

from sumstead.base.integers import is_between
from sumstead.base.worths import is_name
from sumstead.outline.trees import are_names, is_pair

MOST_STEP = 30
MOST_WINDOW = 30
MOST_MEMBERS = 30


def _is_move(value):
    if not is_pair(value):
        return False
    word, given = value
    if word == "step":
        return is_between(given, -MOST_STEP, MOST_STEP) and given != 0
    return (word == "to" or word == "parent") and is_name(given)


def are_moves(value):
    """Whether the value is a tuple of pairs (side name, move), ascending by the side names."""
    if type(value) is not tuple:
        return False
    last = ""
    for pair in value:
        if not is_pair(pair) or not is_name(pair[0]) or not _is_move(pair[1]):
            return False
        if pair[0] <= last:
            return False
        last = pair[0]
    return True


def is_span(value):
    """Whether the value is a span."""
    if value == ("leaves",):
        return True
    if not is_pair(value):
        return False
    word, given = value
    if word == "members":
        return are_names(given, 1, MOST_MEMBERS)
    if word == "window":
        return is_between(given, 1, MOST_WINDOW)
    return (word == "children" or word == "sofar") and is_name(given)


def move_suits(side, move):
    """Whether a side has the member, or the hierarchy, that a move names."""
    word, given = move
    if word == "to":
        return given in side
    return word == "step" or given in side.names


def span_suits(side, span):
    """Whether a side has the members, or the hierarchy, that a span names."""
    if span[0] == "members":
        return all([member in side for member in span[1]])
    return span[0] == "leaves" or span[0] == "window" or span[1] in side.names


def put(place, index, member):
    """The place with another member at an index."""
    return place[:index] + (member,) + place[index + 1:]


def _moved_member(side, member, move):
    word, given = move
    if word == "to":
        return given
    if word == "step":
        return side.step(member, given)
    return side.parent(member, given)


def moved(outline, place, moves):
    """The place in which the members are moved, or None if a move leads nowhere."""
    for name, move in moves:
        index = outline.index(name)
        member = _moved_member(outline.sides[index], place[index], move)
        if member is None:
            return None
        place = put(place, index, member)
    return place


def _children(side, member, hierarchy):
    if side.home(member) != hierarchy:
        return ()
    return tuple([child for child, _ in side.children(member)])


def _window(side, member, count):
    if not side.is_leaf(member):
        return ()
    end = side.seat(member) + 1
    return side.leaves[max(0, end - count):end]


def _sofar(side, member, hierarchy):
    if not side.is_leaf(member):
        return ()
    group = side.parent(member, hierarchy)
    if group is None:
        return ()
    children = _children(side, group, hierarchy)
    return children[:children.index(member) + 1]


def span_members(side, member, span):
    """The members of a span at an asked member."""
    word = span[0]
    if word == "members":
        return span[1]
    if word == "children":
        return _children(side, member, span[1])
    if word == "leaves":
        return tuple([leaf for leaf, _ in side.under(member)])
    if word == "window":
        return _window(side, member, span[1])
    return _sofar(side, member, span[1])
