"""Sheets: tables of answers; and own members of a side."""

from sumstead.ask.sets import does_ask, members_of
from sumstead.ask.tables import lines_of
from sumstead.base.integers import is_between
from sumstead.base.worths import is_name
from sumstead.errors import InvalidName, InvalidNumber, InvalidOperation, InvalidQuestion, InvalidRule
from sumstead.errors import Refused, TooMany, UnknownName
from sumstead.outline.outlines import Outline, Side
from sumstead.outline.trees import is_pair
from sumstead.plain.cubes import Cube, check_cube, check_cube_place
from sumstead.plain.formulas import does_suit, is_formula
from sumstead.plain.moves import put
from sumstead.plain.rules import MAX_RANK, MAX_RULES, Rule

MAX_SHOWN = 2000

_NOTHING = ("nothing",)


def _with_leaf(outline, name, leaf):
    """The outline with a further leaf behind those of a side."""
    sides = []
    for side in outline.sides:
        if side.name == name:
            sides.append(Side(name, side.leaves + (leaf,), side.hierarchies))
        else:
            sides.append(side)
    return Outline(tuple(sides))


def with_own(cube, side, name, formula, rank=0):
    """The cube with an own member: a leaf behind those of a side, told by a formula."""
    check_cube(cube)
    if side not in cube.outline.names:
        raise UnknownName(side)
    if not is_name(name):
        raise InvalidName(name)
    if not is_formula(formula):
        raise InvalidRule(formula)
    if not is_between(rank, 0, MAX_RANK):
        raise InvalidNumber(rank)
    outline = _with_leaf(cube.outline, side, name)
    if not does_suit(outline, formula):
        raise InvalidRule(formula)
    if len(cube.rules) == MAX_RULES:
        raise TooMany(MAX_RULES)
    area = tuple([(name,) if own == side else None for own in outline.names])
    return Cube(outline, cube.rules + (Rule(area, formula, rank),), cube.cells)


def _check_asking(outline, value):
    """Refuses what is no pair of a side and a question that can be asked for it."""
    if not is_pair(value) or value[0] not in outline.names or not does_ask(outline, value[0], value[1]):
        raise InvalidQuestion(value)


def _heads(cube, place, asking):
    """The members that a pair of a side and a question tells."""
    word, told = members_of(cube, place, asking[0], asking[1])
    if word == "refused":
        raise Refused(told)
    return told


def _check_index(value, many):
    if not is_between(value, 0, many - 1):
        raise InvalidNumber(value)


class Sheet:
    """A table of answers, with the members of one side as rows, and those of another one as columns."""

    def __init__(self, cube, place, rows, columns, *, whole=True):
        check_cube_place(cube, place)
        _check_asking(cube.outline, rows)
        _check_asking(cube.outline, columns)
        if columns[0] == rows[0]:
            raise InvalidQuestion(columns)
        if type(whole) is not bool:
            raise InvalidOperation(whole)
        self._cube = cube
        self._place = place
        self._asked_rows = rows
        self._asked_columns = columns
        self._whole = whole
        self._rows = _heads(cube, place, rows)
        self._columns = _heads(cube, place, columns)
        if len(self._rows) * len(self._columns) > MAX_SHOWN:
            raise TooMany(MAX_SHOWN)
        self._table = self._told_places(cube)
        if not whole:
            self._leave_out()
        self._answers = tuple([tuple([self._table[self._place_of(row, column)] for column in self._columns])
                               for row in self._rows])

    def _place_of(self, row, column):
        """The place with both heads."""
        outline = self._cube.outline
        place = put(self._place, outline.index(self._asked_rows[0]), row)
        return put(place, outline.index(self._asked_columns[0]), column)

    def _told_places(self, cube):
        """The dict from the places of all rows and columns, row by row, to their answers."""
        places = [self._place_of(row, column) for row in self._rows for column in self._columns]
        return {place: cube.answer(place) for place in places}

    def _is_told(self, row, column):
        return self._table[self._place_of(row, column)] != _NOTHING

    def _leave_out(self):
        """Leaves out the rows, and then the columns, in which all answers are nothing."""
        self._rows = tuple([row for row in self._rows
                            if any([self._is_told(row, column) for column in self._columns])])
        self._columns = tuple([column for column in self._columns
                               if any([self._is_told(row, column) for row in self._rows])])
        places = [self._place_of(row, column) for row in self._rows for column in self._columns]
        self._table = {place: self._table[place] for place in places}

    @property
    def cube(self):
        """The cube."""
        return self._cube

    @property
    def rows(self):
        """The heads of the rows."""
        return self._rows

    @property
    def columns(self):
        """The heads of the columns."""
        return self._columns

    @property
    def answers(self):
        """A tuple of answers for each row."""
        return self._answers

    @property
    def lines(self):
        """The table as lines of text."""
        return lines_of(self._rows, self._columns, self._answers)

    def _check_indices(self, row, column):
        _check_index(row, len(self._rows))
        _check_index(column, len(self._columns))

    def shown(self, row, column):
        """The place that is shown in a row and a column."""
        self._check_indices(row, column)
        return self._place_of(self._rows[row], self._columns[column])

    def answer(self, row, column):
        """The answer that is shown in a row and a column."""
        self._check_indices(row, column)
        return self._answers[row][column]

    def with_cells(self, changes):
        """The sheet of the cube with other cells."""
        changed = self._cube.with_cells(changes)
        return Sheet(changed, self._place, self._asked_rows, self._asked_columns, whole=self._whole)

    def unlike(self, other):
        """The triples (place, answer, answer in the other sheet) of the places that both show unlike."""
        if not isinstance(other, Sheet):
            raise InvalidOperation(other)
        found = []
        for place in self._table:
            if place in other._table and self._table[place] != other._table[place]:
                found.append((place, self._table[place], other._table[place]))
        return tuple(found)

    def __contains__(self, value):
        return value in self._cube.outline and value in self._table

    def __len__(self):
        return len(self._table)

    def __iter__(self):
        return iter(self._table)

    def __eq__(self, other):
        if not isinstance(other, Sheet):
            return False
        one = (self._cube, self._place, self._asked_rows, self._asked_columns, self._whole)
        return one == (other._cube, other._place, other._asked_rows, other._asked_columns, other._whole)

    def __str__(self):
        return f"sheet of {len(self._rows)} rows, {len(self._columns)} columns"
