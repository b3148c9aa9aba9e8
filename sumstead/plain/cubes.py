"""Cubes: an outline, rules and cells, and what the plain reading tells of them."""

from sumstead.base.worths import is_cell_worth
from sumstead.errors import InvalidCells, InvalidCube, InvalidRule, TooMany
from sumstead.outline.outlines import check_outline, check_place, is_cells
from sumstead.plain.reading import Reader
from sumstead.plain.rules import MAX_RULES, Rule
from sumstead.plain.ways import WorthWays

MAX_CELLS = 300

_MOST_CHANGES = 1000


def are_rules(outline, value):
    """Whether the value is a tuple of rules that suit the outline."""
    if type(value) is not tuple or len(value) > MAX_RULES:
        return False
    return all([isinstance(rule, Rule) and rule.suits(outline) for rule in value])


def _is_change(outline, place, worth):
    return outline.is_leaf_place(place) and (worth is None or is_cell_worth(worth))


def are_changes(outline, value):
    """Whether the value is a dict from leaf places to cell worths, or None for nothing."""
    if type(value) is not dict or len(value) > _MOST_CHANGES:
        return False
    return all([_is_change(outline, place, value[place]) for place in value])


class Cube:
    """A cube: an outline, rules in order, and cells."""

    def __init__(self, outline, rules=(), cells=None):
        check_outline(outline)
        if not are_rules(outline, rules):
            raise InvalidRule(rules)
        if cells is not None and not is_cells(outline, cells):
            raise InvalidCells(cells)
        self._outline = outline
        self._rules = rules
        self._cells = {} if cells is None else {place: cells[place] for place in sorted(cells)}
        self._reader = Reader(outline, rules, WorthWays(self._cells), tuple(range(len(outline))))

    @property
    def outline(self):
        """The outline."""
        return self._outline

    @property
    def rules(self):
        """The rules in order."""
        return self._rules

    @property
    def cells(self):
        """The dict from leaf places to the worths of the cells."""
        return {place: self._cells[place] for place in self._cells}

    def rule_at(self, place):
        """The index of the rule that tells a place, or None."""
        check_place(self._outline, place)
        return self._reader.rule_for(place)

    def answer(self, place):
        """The answer of the plain reading."""
        check_place(self._outline, place)
        return self._reader.answer(place)

    def needs(self, place):
        """The places that the reading of a place asks itself, in the order of asking."""
        check_place(self._outline, place)
        return self._reader.needs(place)

    def read_node(self, place, node):
        """What a formula, or a test, tells at a place that is not open; raises Refused if it is refused."""
        return self._reader.read_node(place, node)

    def with_cells(self, changes):
        """The cube with other cells."""
        if not are_changes(self._outline, changes):
            raise InvalidCells(changes)
        changed = {place: self._cells[place] for place in self._cells}
        for place in changes:
            changed[place] = changes[place]
        kept = {place: changed[place] for place in changed if changed[place] is not None}
        if len(kept) > MAX_CELLS:
            raise TooMany(MAX_CELLS)
        return Cube(self._outline, self._rules, kept)

    def with_rules(self, rules):
        """The cube with other rules."""
        return Cube(self._outline, rules, self._cells)

    def __contains__(self, value):
        return self._outline.is_leaf_place(value) and value in self._cells

    def __len__(self):
        return len(self._cells)

    def __eq__(self, other):
        if not isinstance(other, Cube):
            return False
        one = (self._outline, self._rules, self._cells)
        return one == (other._outline, other._rules, other._cells)

    def __str__(self):
        sides = len(self._outline)
        return f"cube of {sides} sides, {len(self._rules)} rules, {len(self._cells)} cells"


def check_cube(cube):
    """Refuses what is no cube."""
    if not isinstance(cube, Cube):
        raise InvalidCube(cube)


def check_cube_place(cube, place):
    """Refuses what is no cube, and then what is no place of it."""
    check_cube(cube)
    check_place(cube.outline, place)
