"""Marks: leaf places without which a place is told nothing, so that it can be skipped."""

from sumstead.base.ordered import are_ascending
from sumstead.errors import InvalidOperation, Refused
from sumstead.kept.looking import NOTHING, THERE
from sumstead.kept.wide import WideReading, WideView
from sumstead.plain.cubes import check_cube_place

_WORDS = ("nothing", "there", "trouble")


def _is_set(outline, value):
    """Whether the value is an ascending tuple of leaf places."""
    if type(value) is not tuple or not all([outline.is_leaf_place(leaf_place) for leaf_place in value]):
        return False
    return are_ascending(value)


def _check_set(cube, value):
    if not _is_set(cube.outline, value):
        raise InvalidOperation(value)


def _table(leaf_places):
    return {leaf_place: True for leaf_place in leaf_places}


def _unmarked(view, marks):
    """The dict of the leaf places that a view comes to, without marked ones."""
    marked = _table(marks)
    return _table([leaf_place for leaf_place in view.leaf_spots if leaf_place not in marked])


def wide_word(cube, place, there):
    """The word of the wide reading of a place over a set."""
    check_cube_place(cube, place)
    _check_set(cube, there)
    return _WORDS[WideReading(WideView(cube, place), _table(there)).root_level()]


def is_traced(cube, place):
    """Whether the wide reading of a place is exact."""
    check_cube_place(cube, place)
    view = WideView(cube, place)
    return not view.comes_to_choice and not WideReading(view, view.leaf_spots).comes_to_trouble()


def is_enough(cube, place, marks):
    """Whether a place is told nothing as long as no marked leaf place has a cell."""
    check_cube_place(cube, place)
    _check_set(cube, marks)
    view = WideView(cube, place)
    return WideReading(view, _unmarked(view, marks)).root_level() == NOTHING


def missed(cube, place, marks):
    """A least set without marked leaf places over which a place may be more than nothing, or None."""
    check_cube_place(cube, place)
    _check_set(cube, marks)
    view = WideView(cube, place)
    unmarked = _unmarked(view, marks)
    reading = WideReading(view, unmarked)
    if reading.root_level() == NOTHING:
        return None
    found = []
    for leaf_place in unmarked:
        if reading.breaks(leaf_place, NOTHING):
            found.append(leaf_place)
    return tuple(sorted(found))


def _all_break(view, reading, leaf_places, level):
    """Whether each leaf place alone breaks what holds, if it is given a level."""
    for leaf_place in leaf_places:
        if leaf_place not in view.leaf_spots or not reading.breaks(leaf_place, level):
            return False
    return True


def is_missed(cube, place, marks, value):
    """Whether the value is a least set without marked leaf places over which a place may be more than nothing."""
    check_cube_place(cube, place)
    _check_set(cube, marks)
    if not _is_set(cube.outline, value):
        return False
    marked = _table(marks)
    if any([leaf_place in marked for leaf_place in value]):
        return False
    view = WideView(cube, place)
    reading = WideReading(view, _table(value))
    return reading.root_level() != NOTHING and _all_break(view, reading, value, NOTHING)


def least_marks(cube, place):
    """Marks that are enough, of which none can be spared, or None."""
    check_cube_place(cube, place)
    view = WideView(cube, place)
    reading = WideReading(view, {})
    if reading.root_level() != NOTHING:
        return None
    found = []
    for leaf_place in view.leaf_spots:
        if reading.breaks(leaf_place, THERE):
            found.append(leaf_place)
    return tuple(sorted(found))


def is_least_marks(cube, place, value):
    """Whether the value is marks that are enough, of which none can be spared."""
    check_cube_place(cube, place)
    if not _is_set(cube.outline, value):
        return False
    view = WideView(cube, place)
    reading = WideReading(view, _unmarked(view, value))
    return reading.root_level() == NOTHING and _all_break(view, reading, value, THERE)


def answer_marked(cube, place, marks):
    """The answer at a place; it is skipped if no marked leaf place has a cell."""
    if not is_enough(cube, place, marks):
        raise Refused(("marks",))
    if not any([leaf_place in cube for leaf_place in marks]):
        return ("nothing",)
    return cube.answer(place)
