"""Kept sums: what some clean places of a cube are told, kept up with its cells."""

from sumstead.base.reckoning import added, multiplied, opposite
from sumstead.base.worths import ZERO
from sumstead.errors import InvalidOperation, InvalidPlace
from sumstead.plain.boxes import Box, has_leaf_place, weight_in
from sumstead.kept.plans import Plans
from sumstead.outline.outlines import check_place
from sumstead.plain.cubes import check_cube
from sumstead.plain.reading import Reader
from sumstead.plain.ways import WorthWays
from sumstead.plain.weights import is_clean

MAX_KEPT = 12


class KeptSum:
    """What a kept place is told, by the cells beneath it."""

    def __init__(self, box):
        self.box = box
        self.worth = ZERO
        self.cell_count = 0

    def note(self, leaf_place, old, new):
        """Makes the sum right behind the change of a cell; whether the cell is beneath the place."""
        weight = weight_in(self.box, leaf_place)
        if weight is None:
            return False
        more = added(new, opposite(old))
        self.worth = added(self.worth, multiplied(weight, more))
        if old is None:
            self.cell_count = self.cell_count + 1
        if new is None:
            self.cell_count = self.cell_count - 1
        return True

    def told(self):
        """A worth, or None if there is no cell."""
        return self.worth if self.cell_count > 0 else None


class KeptWays(WorthWays):
    """Reckons in worths, and tells each clean place by kept sums, and cells where they lack."""

    def __init__(self, cube, plans, kept_sums):
        WorthWays.__init__(self, cube.cells)
        self._clean_cube = cube
        self._plans = plans
        self._kept_sums = kept_sums

    def is_whole(self, place):
        """Whether a place is told without being opened."""
        return is_clean(self._clean_cube, place)

    def leaf(self, place):
        """What a clean place is told."""
        outline = self._clean_cube.outline
        if outline.is_leaf_place(place):
            return self._cells.get(place, None)
        chosen = self._plans.best_pairs(place)
        total = None
        for box, factor in chosen:
            total = added(total, multiplied(factor, self._kept_sums[box.source].told()))
        whole = Box(outline, place)
        for leaf_place in self._cells:
            if not any([has_leaf_place(box, leaf_place) for box, _ in chosen]):
                total = added(total, multiplied(weight_in(whole, leaf_place), self._cells[leaf_place]))
        return total


def _are_places(outline, value):
    """Whether the value is a tuple of different places that can be kept."""
    if type(value) is not tuple or len(value) > MAX_KEPT or not all([place in outline for place in value]):
        return False
    return len(set(value)) == len(value)


class Kept:
    """A cube, and what its kept places are told."""

    def __init__(self, cube, places):
        check_cube(cube)
        if not _are_places(cube.outline, places):
            raise InvalidPlace(places)
        if not all([is_clean(cube, place) for place in places]):
            raise InvalidOperation(places)
        self._kept_places = places
        self._plans = Plans(cube.outline, places)
        self._kept_sums = {box.source: KeptSum(box) for box in self._plans.kept_boxes}
        cells = cube.cells
        for leaf_place in cells:
            self._note(leaf_place, None, cells[leaf_place])
        self._put(cube)

    def _note(self, leaf_place, old, new):
        """Makes the sums right behind the change of a cell; the kept places above it."""
        return [place for place in self._kept_places if self._kept_sums[place].note(leaf_place, old, new)]

    def _put(self, cube):
        self._cube = cube
        order = tuple(range(len(cube.outline)))
        self._reader = Reader(cube.outline, cube.rules, KeptWays(cube, self._plans, self._kept_sums), order)

    @property
    def cube(self):
        """The cube as it is now."""
        return self._cube

    @property
    def kept_places(self):
        """The kept places."""
        return self._kept_places

    @property
    def sums(self):
        """The dict from the kept places to pairs (worth or None, number of cells beneath)."""
        places = sorted(self._kept_places)
        return {place: (self._kept_sums[place].told(), self._kept_sums[place].cell_count) for place in places}

    def change(self, changes):
        """Gives the cube other cells; the kept places beneath which a cell has changed."""
        changed = self._cube.with_cells(changes)
        cells = self._cube.cells
        found = {}
        for leaf_place in changes:
            old = cells.get(leaf_place, None)
            if old != changes[leaf_place]:
                for place in self._note(leaf_place, old, changes[leaf_place]):
                    found[place] = True
        self._put(changed)
        return tuple(sorted(found))

    def _check_clean(self, place):
        check_place(self._cube.outline, place)
        if not is_clean(self._cube, place):
            raise InvalidOperation(place)

    def plan(self, place):
        """A plan of a clean place with the fewest pairs."""
        self._check_clean(place)
        return self._plans.plan(place)

    def is_plan(self, place, value):
        """Whether the value is a plan of a clean place with the fewest pairs."""
        self._check_clean(place)
        return self._plans.is_plan(place, value)

    def answer(self, place):
        """The answer of the plain reading."""
        check_place(self._cube.outline, place)
        return self._reader.answer(place)

    def count(self, place):
        """How many leaf places beneath a place have a cell."""
        check_place(self._cube.outline, place)
        box = Box(self._cube.outline, place)
        return len([leaf_place for leaf_place in self._cube.cells if has_leaf_place(box, leaf_place)])

    def twin(self):
        """An equal one that changes by itself."""
        return Kept(self._cube, self._kept_places)

    def __contains__(self, value):
        return value in self._cube.outline and value in self._kept_sums

    def __len__(self):
        return len(self._kept_places)

    def __iter__(self):
        return iter(self._kept_places)

    def __eq__(self, other):
        if not isinstance(other, Kept):
            return False
        return (self._cube, self._kept_places) == (other._cube, other._kept_places)

    def __str__(self):
        return f"{len(self._kept_places)} kept of {self._cube.outline.total} places"
