"""A cube whose cells are kept in several parts, each with a copy, that fetch changes when they are told to."""

from sumstead.base.integers import is_between
from sumstead.base.ordered import are_ascending, by_keys
from sumstead.errors import InvalidCells, InvalidNumber, InvalidStore, Refused, TooMany
from sumstead.outline.outlines import check_place
from sumstead.parts.stocks import cut_anew, first_stock, joined_cells
from sumstead.plain.cubes import MAX_CELLS, Cube, are_changes, check_cube

MAX_PARTS = 8
MAX_SENT = 100


def _are_cuts(value, many):
    """Whether the value tells at which of so many leaves further stretches begin."""
    if type(value) is not tuple or len(value) >= MAX_PARTS:
        return False
    return all([is_between(cut, 1, many - 1) for cut in value]) and are_ascending(value)


def _stretches(leaves, cuts):
    """The leaves, cut into stretches."""
    begins = (0,) + cuts
    ends = cuts + (len(leaves),)
    return tuple([leaves[begin:end] for begin, end in zip(begins, ends)])


def _cut_at(stocks, index, stretches):
    """The stocks, with two of them side by side cut anew."""
    return stocks[:index] + cut_anew(stocks[index], stocks[index + 1], stretches) + stocks[index + 2:]


class Parts:
    """Changes that are sent, and the parts and copies that fetch them."""

    def __init__(self, cube, name, cuts=()):
        check_cube(cube)
        if not _are_cuts(cuts, len(cube.outline.side(name).leaves)):
            raise InvalidStore(cuts)
        self._outline = cube.outline
        self._own_rules = cube.rules
        self._name = name
        self._cuts = cuts
        at = cube.outline.index(name)
        self._parts = [first_stock(at, stretch, cube.cells) for stretch in self.stretches]
        self._copies = [part.twin() for part in self._parts]
        # Where cells are behind all that was sent: kept, so that a send looks at its own changes only.
        self._filled = {place: True for place in cube.cells}
        # The changes behind the oldest moment.
        self._changes = []
        self._oldest = 0
        # What was asked at sure moments; no answer there ever changes.
        self._asked_cubes = {}

    @property
    def name(self):
        """The name of the side that is cut."""
        return self._name

    @property
    def cuts(self):
        """The indices of the leaves at which further stretches begin."""
        return self._cuts

    @property
    def stretches(self):
        """The tuple of the leaves of each part."""
        return _stretches(self._outline.side(self._name).leaves, self._cuts)

    @property
    def sent(self):
        """How many changes were sent."""
        return self._oldest + len(self._changes)

    @property
    def oldest(self):
        """The oldest moment that is kept."""
        return self._oldest

    @property
    def sure(self):
        """The greatest moment that all parts have fetched."""
        return min([part.moment() for part in self._parts])

    @property
    def rows(self):
        """For each part the moments that it and its copy have fetched."""
        return tuple([(part.moment(), copy.moment()) for part, copy in zip(self._parts, self._copies)])

    def send(self, changes):
        """Sends changes of cells; their number."""
        if not are_changes(self._outline, changes):
            raise InvalidCells(changes)
        if self.sent == MAX_SENT:
            raise TooMany(MAX_SENT)
        self._fill(changes)
        self._changes.append(by_keys(changes))
        return self.sent

    def _fill(self, changes):
        """Counts the cells that come and go with changes; refuses more cells than a cube can have."""
        come = [place for place in changes if changes[place] is not None and place not in self._filled]
        gone = [place for place in changes if changes[place] is None and place in self._filled]
        if len(self._filled) + len(come) - len(gone) > MAX_CELLS:
            raise TooMany(MAX_CELLS)
        for place in come:
            self._filled[place] = True
        for place in gone:
            del self._filled[place]

    def _check_index(self, index, many):
        if not is_between(index, 0, many - 1):
            raise InvalidNumber(index)

    def _lead(self, stock, count, most):
        """Makes a part, or a copy, fetch so many changes; the moment then."""
        if not is_between(count, 1, most - stock.moment()):
            raise InvalidNumber(count)
        for _ in range(count):
            stock.fetch(self._changes[stock.moment() - self._oldest])
        return stock.moment()

    def fetch(self, index, count=1):
        """A part fetches the next changes; the moment then."""
        self._check_index(index, len(self._parts))
        return self._lead(self._parts[index], count, self.sent)

    def follow(self, index, count=1):
        """A copy fetches the next changes that its part has fetched; the moment then."""
        self._check_index(index, len(self._parts))
        return self._lead(self._copies[index], count, self._parts[index].moment())

    def fall(self, index):
        """A part is lost, and its copy takes its place; the moment that it has fetched."""
        self._check_index(index, len(self._parts))
        self._parts[index] = self._copies[index]
        self._copies[index] = self._parts[index].twin()
        return self._parts[index].moment()

    def shift(self, index, cut):
        """A cut becomes another one."""
        self._check_index(index, len(self._cuts))
        ends = (0,) + self._cuts + (len(self._outline.side(self._name).leaves),)
        if not is_between(cut, ends[index] + 1, ends[index + 2] - 1):
            raise InvalidNumber(cut)
        rows = self.rows
        if rows[index] != rows[index + 1]:
            raise Refused(("uneven", index))
        self._cuts = self._cuts[:index] + (cut,) + self._cuts[index + 1:]
        stretches = self.stretches[index:index + 2]
        self._parts = _cut_at(self._parts, index, stretches)
        self._copies = _cut_at(self._copies, index, stretches)

    def forget(self, moment):
        """Makes a moment the oldest one that is kept."""
        least = min([min(row) for row in self.rows])
        if not is_between(moment, self._oldest, least):
            raise InvalidNumber(moment)
        for stock in self._parts + self._copies:
            stock.forget(moment)
        self._changes = self._changes[moment - self._oldest:]
        self._asked_cubes = {one: self._asked_cubes[one] for one in self._asked_cubes if one >= moment}
        self._oldest = moment

    def _moment_of(self, moment, last):
        """A moment up to the last one, for which None stands."""
        if moment is None:
            return last
        if not is_between(moment, self._oldest, last):
            raise InvalidNumber(moment)
        return moment

    def cells_in(self, index, moment=None):
        """The cells of a part at a moment."""
        self._check_index(index, len(self._parts))
        part = self._parts[index]
        return by_keys(part.cells_at(self._moment_of(moment, part.moment())))

    def answer(self, place, moment=None):
        """The answer at a moment."""
        check_place(self._outline, place)
        asked = self._moment_of(moment, self.sure)
        if asked not in self._asked_cubes:
            cells = joined_cells(self._parts, asked)
            self._asked_cubes[asked] = Cube(self._outline, self._own_rules, cells)
        return self._asked_cubes[asked].answer(place)

    def __len__(self):
        return len(self._parts)

    def __eq__(self, other):
        if not isinstance(other, Parts):
            return False
        one = (self._outline, self._own_rules, self._name, self._cuts, self.rows, self._oldest, self._changes)
        if one != (other._outline, other._own_rules, other._name, other._cuts, other.rows, other._oldest,
                   other._changes):
            return False
        return joined_cells(self._parts, self._oldest) == joined_cells(other._parts, other._oldest)

    def __str__(self):
        return f"{len(self._parts)} parts of {self._name}, sure {self.sure} of {self.sent}"
