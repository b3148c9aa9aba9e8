"""Loads: rows that become totals of leaf places; and a ledger of loads, with the way down to their rows."""

from sumstead.base.integers import is_between, is_integer
from sumstead.base.ordered import by_keys
from sumstead.base.reckoning import added
from sumstead.base.worths import is_cell_worth
from sumstead.errors import InvalidNumber, InvalidOperation, Refused, TooMany
from sumstead.load.rows import are_rows, is_map, leaf_place_of, reason_against, worth_of
from sumstead.outline.outlines import check_outline
from sumstead.plain.cubes import MAX_CELLS, Cube, check_cube
from sumstead.plain.weights import is_clean, leaf_weights

MAX_FIELDS = 12
MAX_ROWS = 200
MAX_LOADS = 20

_WAYS = ("add", "set")


class Load:
    """Rows of fields, and what they tell by a map."""

    def __init__(self, outline, fields, worth_field, rows):
        check_outline(outline)
        if not is_map(outline, fields, MAX_FIELDS):
            raise InvalidOperation(fields)
        if not is_between(worth_field, 0, MAX_FIELDS - 1):
            raise InvalidNumber(worth_field)
        if not are_rows(rows, MAX_ROWS, MAX_FIELDS):
            raise InvalidOperation(rows)
        self._outline = outline
        self._fields = fields
        self._worth_field = worth_field
        self._rows = rows
        self._refused = []
        self._entries = []
        for index, row in enumerate(rows):
            reason = reason_against(outline, fields, worth_field, row)
            if reason is None:
                self._entries.append((index, leaf_place_of(fields, row), worth_of(worth_field, row)))
            else:
                self._refused.append((index, reason))

    @property
    def outline(self):
        """The outline."""
        return self._outline

    @property
    def fields(self):
        """The map: for each side a leaf, or the index of the field that names one."""
        return self._fields

    @property
    def worth_field(self):
        """The index of the field of the worth."""
        return self._worth_field

    @property
    def rows(self):
        """The rows."""
        return self._rows

    @property
    def refused(self):
        """The pairs (index, reason) of the rows that are refused."""
        return tuple(self._refused)

    @property
    def entries(self):
        """The triples (index, leaf place, worth) of the rows that are let."""
        return tuple(self._entries)

    @property
    def totals(self):
        """The dict from leaf places to the sums of the worths of their rows."""
        sums = {}
        for _, leaf_place, worth in self._entries:
            sums[leaf_place] = added(sums.get(leaf_place, None), worth)
        return by_keys(sums)

    def __eq__(self, other):
        if not isinstance(other, Load):
            return False
        one = (self._outline, self._fields, self._worth_field, self._rows)
        return one == (other._outline, other._fields, other._worth_field, other._rows)


def _laid_over(cells, load, way):
    """The cells over which a load is laid by a way."""
    found = {place: cells[place] for place in cells}
    totals = load.totals
    for place in totals:
        found[place] = added(cells.get(place, None), totals[place]) if way == "add" else totals[place]
    for place in sorted(totals):
        if not is_cell_worth(found[place]):
            raise Refused(("great", place))
    return found


class Ledger:
    """A first cube, and loads that are laid over it as long as they are kept."""

    def __init__(self, cube):
        check_cube(cube)
        self._first_cube = cube
        self._cube = cube
        self._loads = []
        self._kept_numbers = []

    @property
    def first(self):
        """The first cube."""
        return self._first_cube

    @property
    def cube(self):
        """The first cube with all kept loads laid over it."""
        return self._cube

    @property
    def loads(self):
        """The pairs (load, way)."""
        return tuple(self._loads)

    @property
    def kept(self):
        """The numbers of the loads that are kept."""
        return tuple(self._kept_numbers)

    def _keep(self, loads, kept_numbers):
        """Makes these the loads, and the ones that are kept, if they can be laid."""
        cells = self._first_cube.cells
        for number in kept_numbers:
            load, way = loads[number]
            cells = _laid_over(cells, load, way)
        if len(cells) > MAX_CELLS:
            raise TooMany(MAX_CELLS)
        self._cube = Cube(self._first_cube.outline, self._first_cube.rules, cells)
        self._loads = loads
        self._kept_numbers = kept_numbers

    def lay(self, load, way="add"):
        """Keeps a further load; its number."""
        if not isinstance(load, Load) or load.outline != self._first_cube.outline:
            raise InvalidOperation(load)
        if way not in _WAYS:
            raise InvalidOperation(way)
        number = len(self._loads)
        if number == MAX_LOADS:
            raise TooMany(MAX_LOADS)
        self._keep(self._loads + [(load, way)], self._kept_numbers + [number])
        return number

    def take_back(self, number):
        """Keeps a load no longer."""
        if not is_integer(number) or number not in self._kept_numbers:
            raise InvalidNumber(number)
        self._keep(self._loads, [one for one in self._kept_numbers if one != number])

    def again(self, number):
        """Keeps a load again, in its old place."""
        if not is_between(number, 0, len(self._loads) - 1) or number in self._kept_numbers:
            raise InvalidNumber(number)
        self._keep(self._loads, sorted(self._kept_numbers + [number]))

    def down(self, place):
        """The triples (source, weight, worth) of the cells and rows of which the worth of a place comes."""
        if not is_clean(self._cube, place):
            raise InvalidOperation(place)
        sources = self._sources()
        weights = leaf_weights(self._first_cube.outline, place)
        found = []
        for leaf_place in sorted(weights):
            for source, worth in sources.get(leaf_place, []):
                found.append((source, weights[leaf_place], worth))
        return tuple(found)

    def _sources(self):
        """The dict from leaf places to the pairs (source, worth) that make their cells."""
        cells = self._first_cube.cells
        sources = {place: [(("cell", place), cells[place])] for place in cells}
        for number in list(self._kept_numbers):
            load, way = self._loads[number]
            if way == "set":
                # Nothing that stood there ahead of this load is in the cell any more.
                for place in load.totals:
                    sources[place] = []
            for index, place, worth in load.entries:
                sources[place] = sources.get(place, []) + [(("row", number, index), worth)]
        return sources
