"""Rules along a side whose leaves stand in the order of time: to date, over windows, and stocks."""

from sumstead.base.integers import is_between
from sumstead.errors import InvalidNumber, InvalidOperation, InvalidOutline, InvalidRule, TooMany, UnknownName
from sumstead.outline.outlines import Side, check_outline
from sumstead.plain.cubes import Cube, check_cube
from sumstead.plain.moves import MOST_WINDOW, is_span, span_members, span_suits
from sumstead.plain.rules import MAX_RULES, Rule

_NOTHING = ("nothing",)


def span_of(side, member, span):
    """The members that a span tells for an asked member."""
    if not isinstance(side, Side):
        raise InvalidOutline(side)
    if member not in side:
        raise UnknownName(member)
    if not is_span(span) or not span_suits(side, span):
        raise InvalidOperation(span)
    return span_members(side, member, span)


def _check_time(outline, time):
    check_outline(outline)
    if time not in outline.names:
        raise UnknownName(time)


def _check_goal(outline, time, kind, goal, source):
    """Refuses what is no other side, no leaf of it, and no other member of it."""
    if kind == time:
        raise UnknownName(kind)
    side = outline.side(kind)
    if not side.is_leaf(goal):
        raise UnknownName(goal)
    if source not in side or source == goal:
        raise UnknownName(source)


def _rule(outline, kind, goal, formula, rank):
    """The rule that tells the leaf of a side by a formula."""
    area = tuple([(goal,) if name == kind else None for name in outline.names])
    return Rule(area, formula, rank)


def _at(kind, source):
    """The formula that asks the source at the same time."""
    return ("at", ((kind, ("to", source)),))


def to_date(outline, time, hierarchy, kind, goal, source, *, rank=50):
    """The rule by which a leaf has the sum of what another member has so far."""
    _check_time(outline, time)
    if hierarchy not in outline.side(time).names:
        raise UnknownName(hierarchy)
    _check_goal(outline, time, kind, goal, source)
    return _rule(outline, kind, goal, ("sum", time, ("sofar", hierarchy), _at(kind, source)), rank)


def over_window(outline, time, count, kind, goal, source, *, rank=50):
    """The rule by which a leaf has the sum of what another member has in a window."""
    _check_time(outline, time)
    if not is_between(count, 1, MOST_WINDOW):
        raise InvalidNumber(count)
    _check_goal(outline, time, kind, goal, source)
    return _rule(outline, kind, goal, ("sum", time, ("window", count), _at(kind, source)), rank)


def opening(outline, time, kind, goal, source, *, rank=50):
    """The rule by which a leaf has the first that another member has."""
    _check_time(outline, time)
    _check_goal(outline, time, kind, goal, source)
    return _rule(outline, kind, goal, ("first", time, ("leaves",), _at(kind, source)), rank)


def closing(outline, time, kind, goal, source, *, rank=50):
    """The rule by which a leaf has the last that another member has."""
    _check_time(outline, time)
    _check_goal(outline, time, kind, goal, source)
    return _rule(outline, kind, goal, ("last", time, ("leaves",), _at(kind, source)), rank)


def rise(outline, time, kind, goal, source, *, rank=50):
    """The rule by which a leaf has what another member has more than one leaf ahead."""
    _check_time(outline, time)
    _check_goal(outline, time, kind, goal, source)
    now = _at(kind, source)
    ahead = ("at", tuple(sorted([(kind, ("to", source)), (time, ("step", -1))])))
    both = ("both", ("there", now), ("there", ahead))
    return _rule(outline, kind, goal, ("if", both, ("minus", now, ahead), _NOTHING), rank)


def with_more(cube, rules):
    """The cube with further rules behind its own ones."""
    check_cube(cube)
    if type(rules) is not tuple or not all([_is_suited(cube.outline, rule) for rule in rules]):
        raise InvalidRule(rules)
    if len(cube.rules) + len(rules) > MAX_RULES:
        raise TooMany(MAX_RULES)
    return Cube(cube.outline, cube.rules + rules, cube.cells)


def _is_suited(outline, value):
    return isinstance(value, Rule) and value.suits(outline)
