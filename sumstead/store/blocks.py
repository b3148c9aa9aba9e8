"""Block stores: the cells of an outline as texts of rows, side by side in one string."""

from sumstead.base.integers import is_between
from sumstead.base.ordered import by_keys
from sumstead.base.reckoning import added, multiplied
from sumstead.base.worths import is_cell_worth
from sumstead.errors import InvalidCells, InvalidOperation, InvalidPlace, InvalidStore, InvalidWorth
from sumstead.errors import ParseError, TooMany, UnknownName
from sumstead.outline.outlines import check_outline, check_place, is_cells
from sumstead.outline.trees import is_pair
from sumstead.plain.boxes import Box, weight_in
from sumstead.plain.cubes import MAX_CELLS, Cube
from sumstead.store.codings import coded, decoded
from sumstead.store.layouts import Layout, dense_indices
from sumstead.store.rooms import are_apart, free_spans, freed, seat_for, with_text

MAX_DENSE = 1000
FREE = "_"


class BlockStore:
    """Cells of an outline in blocks; the text of each block stands in one room."""

    def __init__(self, outline, dense, cells=None):
        check_outline(outline)
        indices = dense_indices(outline, dense)
        if indices is None:
            raise InvalidStore(dense)
        if cells is not None and not is_cells(outline, cells):
            raise InvalidCells(cells)
        self._outline = outline
        self._dense = dense
        self._layout = Layout(outline, indices)
        self._room = ""
        self._spans = {}
        self._cell_count = 0
        if cells is not None:
            for leaf_place in sorted(cells):
                self.put(leaf_place, cells[leaf_place])

    @property
    def outline(self):
        """The outline."""
        return self._outline

    @property
    def dense(self):
        """The names of the dense sides."""
        return self._dense

    @property
    def room(self):
        """The string in which the texts of the blocks stand."""
        return self._room

    @property
    def spans(self):
        """The dict from the keys of all blocks to their spans."""
        return {key: self._spans[key] for key in self._spans}

    @property
    def free(self):
        """The free spans."""
        return free_spans(self._room)

    @property
    def cells(self):
        """The dict from leaf places to the worths of the cells."""
        found = {}
        for key in self._spans:
            for seat, entry in enumerate(self._row_at(key)):
                if entry is not None:
                    found[self._layout.leaf_place_of(key, seat)] = entry
        return by_keys(found)

    def as_cube(self, rules=()):
        """The cube of the cells."""
        return Cube(self._outline, rules, self.cells)

    def _check_leaf_place(self, leaf_place):
        if not self._outline.is_leaf_place(leaf_place):
            raise InvalidPlace(leaf_place)

    def key(self, leaf_place):
        """The key of the block of a leaf place."""
        self._check_leaf_place(leaf_place)
        return self._layout.key_of(leaf_place)

    def seat(self, leaf_place):
        """The index of a leaf place in the row of its block."""
        self._check_leaf_place(leaf_place)
        return self._layout.seat_of(leaf_place)

    def _row_at(self, key):
        """The row of a key, of holes alone if it has no block."""
        if key not in self._spans:
            return (None,) * len(self._layout.choices)
        begin, end = self._spans[key]
        return decoded(self._room[begin:end])

    def row(self, key):
        """The row of a block."""
        if key not in self:
            raise UnknownName(key)
        return self._row_at(key)

    def worth_at(self, leaf_place):
        """The worth of a cell, or None."""
        return self._row_at(self.key(leaf_place))[self._layout.seat_of(leaf_place)]

    def put(self, leaf_place, entry):
        """Puts a cell worth, or None for nothing; whether the cells change."""
        self._check_leaf_place(leaf_place)
        if entry is not None and not is_cell_worth(entry):
            raise InvalidWorth(entry)
        key = self._layout.key_of(leaf_place)
        seat = self._layout.seat_of(leaf_place)
        row = list(self._row_at(key))
        if row[seat] == entry:
            return False
        count = self._cell_count - _count_in([row[seat]]) + _count_in([entry])
        if count > MAX_CELLS:
            raise TooMany(MAX_CELLS)
        self._cell_count = count
        row[seat] = entry
        self._put_row(key, tuple(row))
        return True

    def _put_row(self, key, row):
        """Frees the text of a block, and puts the text of its row unless it has only holes."""
        if key in self._spans:
            self._room = freed(self._room, self._spans[key])
            del self._spans[key]
        if _count_in(row) > 0:
            text = coded(row)
            begin = seat_for(self._room, len(text))
            self._room = with_text(self._room, begin, text)
            self._spans[key] = (begin, begin + len(text))
            self._spans = by_keys(self._spans)

    def squeeze(self):
        """Lays the blocks side by side; how many characters the room has less."""
        before = len(self._room)
        room = ""
        spans = {}
        for key in self._spans:
            begin, end = self._spans[key]
            spans[key] = (len(room), len(room) + end - begin)
            room = room + self._room[begin:end]
        self._room = room
        self._spans = spans
        return before - len(room)

    def _are_keys(self, value):
        """Whether the value is a tuple with each key of a block once."""
        if type(value) is not tuple or len(value) != len(self._spans) or not all([key in self for key in value]):
            return False
        return len(set(value)) == len(value)

    def _told_by(self, key, box):
        """The sum of the entries of a block times their weights, or None."""
        total = None
        for seat, entry in enumerate(self._row_at(key)):
            if entry is not None:
                weight = weight_in(box, self._layout.leaf_place_of(key, seat))
                total = added(total, multiplied(weight, entry))
        return total

    def answer(self, place, *, keys=None):
        """The answer of the cube without rules, block by block."""
        check_place(self._outline, place)
        if keys is None:
            keys = tuple([key for key in self._spans])
        if not self._are_keys(keys):
            raise InvalidOperation(keys)
        box = Box(self._outline, place)
        total = None
        for key in keys:
            total = added(total, self._told_by(key, box))
        return ("nothing",) if total is None else ("worth", total)

    def has_room(self, room, spans):
        """Whether a room and spans could be those of a store with this outline and these dense sides."""
        if type(room) is not str or type(spans) is not dict or len(spans) > MAX_CELLS:
            return False
        if not all([self._layout.is_key(key) and _is_span(spans[key], len(room)) for key in spans]):
            return False
        if not are_apart(room, sorted([spans[key] for key in spans])):
            return False
        texts = [room[begin:end] for begin, end in [spans[key] for key in spans]]
        if not all([_is_block_text(text, len(self._layout.choices)) for text in texts]):
            return False
        return sum([_count_in(decoded(text)) for text in texts]) <= MAX_CELLS

    def take_over(self, room, spans):
        """Takes over a room and spans that could be its own."""
        self._room = room
        self._spans = by_keys(spans)
        self._cell_count = sum([_count_in(self._row_at(key)) for key in self._spans])

    def __contains__(self, value):
        return self._layout.is_key(value) and value in self._spans

    def __len__(self):
        return len(self._spans)

    def __iter__(self):
        return iter(self._spans)

    def __eq__(self, other):
        if not isinstance(other, BlockStore):
            return False
        one = (self._outline, self._dense, self._room, self._spans)
        return one == (other._outline, other._dense, other._room, other._spans)

    def __str__(self):
        return f"store of {len(self._spans)} blocks, {self._cell_count} cells, {len(self._room)} characters"


def _count_in(row):
    """How many entries of a row are not nothing."""
    return len([entry for entry in row if entry is not None])


def _is_span(value, many):
    """Whether the value is a pair of indices with characters between them, of so many."""
    if not is_pair(value) or not is_between(value[0], 0, many - 1):
        return False
    return is_between(value[1], value[0] + 1, many)


def _is_block_text(text, many):
    """Whether a text is that of a block, with so many entries in its row."""
    try:
        row = decoded(text)
    except ParseError:
        return False
    return len(row) == many and _count_in(row) > 0 and coded(row) == text


def store_of_room(outline, dense, room, spans):
    """The store with a room and spans."""
    store = BlockStore(outline, dense)
    if not store.has_room(room, spans):
        raise InvalidStore("no room, or no spans of blocks in it")
    store.take_over(room, spans)
    return store
