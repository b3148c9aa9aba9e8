"""Cubes and commits as plain values, and back."""

from sumstead.errors import CubeError, InvalidNumber
from sumstead.outline.outlines import Outline, Side, is_cells
from sumstead.plain.cubes import Cube
from sumstead.plain.rules import Rule


def _packed_rules(rules):
    return tuple([(rule.area, rule.formula, rule.rank) for rule in rules])


def packed_base(cube, number):
    """The plain value of a cube at a number."""
    sides = tuple([(side.name, side.leaves, side.hierarchies) for side in cube.outline.sides])
    return ("base", number, sides, _packed_rules(cube.rules), cube.cells)


def _packed_deed(deed):
    return ("rules", _packed_rules(deed[1])) if deed[0] == "rules" else deed


def packed_commit(commit):
    """The plain value of a commit."""
    number, author, deeds = commit
    return ("commit", number, author, tuple([_packed_deed(deed) for deed in deeds]))


def _are_triples(value):
    return type(value) is tuple and all([type(part) is tuple and len(part) == 3 for part in value])


def _unpacked_rules(value):
    """The rules that triples tell; what tells none is left as it is."""
    if not _are_triples(value):
        return value
    try:
        return tuple([Rule(area, formula, rank) for area, formula, rank in value])
    except (CubeError, InvalidNumber):
        return value


def _unpacked_outline(value):
    """The outline that triples tell, or None."""
    if not _are_triples(value):
        return None
    try:
        return Outline(tuple([Side(name, leaves, hierarchies) for name, leaves, hierarchies in value]))
    except CubeError:
        return None


def unpacked_base(value):
    """The pair (cube, number) that a plain value tells, or None."""
    if type(value) is not tuple or len(value) != 5 or value[0] != "base":
        return None
    number = value[1]
    outline = _unpacked_outline(value[2])
    if type(number) is not int or number < 0 or outline is None or not is_cells(outline, value[4]):
        return None
    try:
        return (Cube(outline, _unpacked_rules(value[3]), value[4]), number)
    except CubeError:
        return None


def _unpacked_deed(value):
    if type(value) is tuple and len(value) == 2 and value[0] == "rules":
        return ("rules", _unpacked_rules(value[1]))
    return value


def unpacked_commit(value):
    """The commit that a plain value tells by its form, or None; its deeds may be none."""
    if type(value) is not tuple or len(value) != 4 or value[0] != "commit" or type(value[3]) is not tuple:
        return None
    return (value[1], value[2], tuple([_unpacked_deed(deed) for deed in value[3]]))
