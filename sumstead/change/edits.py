"""Edits of outlines: scripts of them, what they carry along, and tables of where cells come to."""

from sumstead.base.ordered import by_keys
from sumstead.base.reckoning import added, multiplied
from sumstead.base.worths import ONE, is_cell_worth
from sumstead.change.carrying import SideTable, cells_behind, outline_behind, row_of, rules_behind
from sumstead.change.drafts import shares_behind
from sumstead.change.forms import is_edit
from sumstead.errors import InvalidCells, InvalidOperation, Refused, TooMany
from sumstead.outline.outlines import check_outline, is_cells
from sumstead.plain.cubes import MAX_CELLS, Cube, check_cube

MAX_EDITS = 30
MAX_TABLE = 20000


def is_script(value):
    """Whether the value is a script."""
    return type(value) is tuple and len(value) <= MAX_EDITS and all([is_edit(edit) for edit in value])


def _check_script(script):
    if not is_script(script):
        raise InvalidOperation(script)


def edited(outline, script):
    """The outline behind a script."""
    check_outline(outline)
    _check_script(script)
    for index, edit in enumerate(script):
        outline = outline_behind(outline, index, edit)
    return outline


def _check_rules(outline, rules, index):
    for number, rule in enumerate(rules):
        if not rule.suits(outline):
            raise Refused(("rule", index, number))


def _check_cells(cells):
    if len(cells) > MAX_CELLS:
        raise TooMany(MAX_CELLS)
    if not all([is_cell_worth(cells[place]) for place in cells]):
        raise InvalidCells("a carried cell is no cell worth")


def carried(cube, script):
    """The cube behind a script."""
    check_cube(cube)
    _check_script(script)
    outline = cube.outline
    rules = cube.rules
    cells = cube.cells
    for index, edit in enumerate(script):
        behind = outline_behind(outline, index, edit)
        rules = rules_behind(outline, rules, edit)
        _check_rules(behind, rules, index)
        cells = cells_behind(outline, cells, edit)
        _check_cells(cells)
        outline = behind
    return Cube(outline, rules, cells)


def _side_tables(outline, script):
    """The tables of all sides behind a script."""
    tables = [SideTable(side) for side in outline.sides]
    for index, edit in enumerate(script):
        behind = outline_behind(outline, index, edit)
        at = outline.index(edit[1])
        tables[at].note(shares_behind(edit))
        outline = behind
    return tables


def _table_behind(outline, script):
    tables = _side_tables(outline, script)
    many = 1
    # What a cell comes to at one side does not hang on its leaves at the others.
    for table in tables:
        many = many * table.pair_count()
    if many > MAX_TABLE:
        raise TooMany(MAX_TABLE)
    return by_keys({place: row_of(tables, place) for place in outline.leaf_places()})


def table_of(outline, script):
    """The dict from the leaf places to the pairs (new leaf place, share) of what becomes of their cells."""
    check_outline(outline)
    _check_script(script)
    return _table_behind(outline, script)


def _both_tables(outline, one, other):
    check_outline(outline)
    _check_script(one)
    _check_script(other)
    first = _table_behind(outline, one)
    return (first, _table_behind(outline, other))


def are_alike(outline, one, other):
    """Whether two scripts carry all cells alike."""
    first, second = _both_tables(outline, one, other)
    return first == second


def unlike_cells(outline, one, other):
    """Cells with a single one, which two scripts carry to unlike cells, or None."""
    first, second = _both_tables(outline, one, other)
    for place in first:
        if first[place] != second[place]:
            return {place: ONE}
    return None


def _carried_by(table, cells):
    """The cells to which cells come by a table."""
    found = {}
    for place in cells:
        for goal, share in table[place]:
            found[goal] = added(found.get(goal, None), multiplied(share, cells[place]))
    return found


def is_unlike(outline, one, other, value):
    """Whether the value is cells that two scripts carry to unlike cells."""
    first, second = _both_tables(outline, one, other)
    return is_cells(outline, value) and _carried_by(first, value) != _carried_by(second, value)
