"""The forms of the texts that tell rows, character by character, and the rows that they tell."""

from sumstead.base.reckoning import added
from sumstead.base.worths import is_cell_worth, worth_from
from sumstead.errors import ParseError

MOST_ENTRIES = 1000
HOLE = "."

_DIGITS = "0123456789"
_MOST_DIGITS = 4


def _take_sign(text, at, sign):
    """Where a text goes on behind a sign."""
    if text[at:at + 1] != sign:
        raise ParseError(at)
    return at + 1


def _take_number(text, at):
    """A number of at most four digits, and where it ends."""
    if at == len(text) or text[at] not in _DIGITS:
        raise ParseError(at)
    end = at + 1
    while text[at] != "0" and end < len(text) and text[end] in _DIGITS and end - at < _MOST_DIGITS:
        end += 1
    return (int(text[at:end]), end)


def _take_seated(text, at):
    """An entry with its index, as (where the index begins, index, where the entry begins, entry); where it ends."""
    index, end = _take_number(text, at)
    begin = _take_sign(text, end, "=")
    entry, last = worth_from(text, begin)
    return ((at, index, begin, entry), last)


def _take_part(text, at, kind):
    """A part of a text of some kind, and where it ends.

    But for sparse texts it is a run as (where it begins, entry, number or None, where the number begins).
    """
    if kind == "s":
        return _take_seated(text, at)
    if text[at:at + 1] == HOLE and kind != "d":
        entry, end = (None, at + 1)
    else:
        entry, end = worth_from(text, at)
    if kind == "p" or text[end:end + 1] != "*":
        return ((at, entry, None, end), end)
    many, last = _take_number(text, end + 1)
    return ((at, entry, many, end + 1), last)


def _take_parts(text, begin, kind):
    """Parts with commas between them, up to the end of the text."""
    part, at = _take_part(text, begin, kind)
    found = [part]
    while at < len(text):
        part, at = _take_part(text, _take_sign(text, at, ","), kind)
        found.append(part)
    return found


def _check_number(many, at):
    if many is not None and many < 2:
        raise ParseError(at)


def _row_of_runs(runs):
    """The row of runs of entries."""
    row = []
    for at, entry, many, many_at in runs:
        more = 1 if many is None else many
        if len(row) + more > MOST_ENTRIES or (entry is not None and not is_cell_worth(entry)):
            raise ParseError(at)
        _check_number(many, many_at)
        row.extend([entry] * more)
    return row


def _row_of_steps(runs):
    """The row of runs of the first entry and of differences."""
    row = []
    last = None
    for at, step, many, many_at in runs:
        more = 1 if many is None else many
        if len(row) + more > MOST_ENTRIES:
            raise ParseError(at)
        # A wrong number stands behind the run that it spoils.
        for _ in range(max(1, more)):
            last = added(last, step)
            if not is_cell_worth(last):
                raise ParseError(at)
            row.append(last)
        _check_number(many, many_at)
    return row


def _read_sparse(text):
    """The row of a sparse text."""
    many, end = _take_number(text, 2)
    begin = _take_sign(text, end, ";")
    seated = []
    if begin < len(text):
        seated = _take_parts(text, begin, "s")
    if not 1 <= many <= MOST_ENTRIES:
        raise ParseError(2)
    row = [None] * many
    least = 0
    for at, index, entry_at, entry in seated:
        if not least <= index < many:
            raise ParseError(at)
        if not is_cell_worth(entry):
            raise ParseError(entry_at)
        row[index] = entry
        least = index + 1
    return row


def row_of_text(text):
    """The row that a text tells."""
    if type(text) is not str:
        raise ParseError(None)
    kind = text[:1]
    if kind == "" or kind not in "prsd":
        raise ParseError(0)
    begin = _take_sign(text, 1, ":")
    if kind == "s":
        return tuple(_read_sparse(text))
    runs = _take_parts(text, begin, kind)
    return tuple(_row_of_steps(runs) if kind == "d" else _row_of_runs(runs))
