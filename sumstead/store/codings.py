"""Codings of rows: texts that tell the entries of a row, one behind the other."""

from sumstead.base.integers import is_between
from sumstead.base.reckoning import added, opposite
from sumstead.base.worths import is_cell_worth, worth_text
from sumstead.errors import InvalidNumber, InvalidOperation, InvalidWorth, ParseError, TooMany
from sumstead.store.rowtexts import HOLE, row_of_text

MAX_ROW = 1000
KINDS = ("plain", "runs", "sparse", "steps")


def _is_entry(value):
    return value is None or is_cell_worth(value)


def is_row(value):
    """Whether the value is a row."""
    if type(value) is not tuple or not 1 <= len(value) <= MAX_ROW:
        return False
    return all([_is_entry(entry) for entry in value])


def _check_row(row):
    if not is_row(row):
        raise InvalidOperation(row)


def _entry_text(entry):
    return HOLE if entry is None else worth_text(entry)


def _run_text(entry, many):
    if many == 1:
        return _entry_text(entry)
    return f"{_entry_text(entry)}*{many}"


def _runs_text(entries):
    """The texts of the longest runs of entries, with commas between them."""
    found = []
    begin = 0
    for end in range(1, len(entries) + 1):
        if end == len(entries) or entries[end] != entries[begin]:
            found.append(_run_text(entries[begin], end - begin))
            begin = end
    return ",".join(found)


def _steps_of(row):
    """The first entry, and each entry less the one ahead."""
    return [row[0]] + [added(entry, opposite(last)) for last, entry in zip(row, row[1:])]


def _all_codings(row):
    seated = [f"{index}={_entry_text(entry)}" for index, entry in enumerate(row) if entry is not None]
    found = {
        "plain": "p:" + ",".join([_entry_text(entry) for entry in row]),
        "runs": "r:" + _runs_text(row),
        "sparse": f"s:{len(row)};" + ",".join(seated),
    }
    if None not in row:
        found["steps"] = "d:" + _runs_text(_steps_of(row))
    return found


def codings(row):
    """The dict from the kinds of the codings of a row to these."""
    _check_row(row)
    return _all_codings(row)


def coded(row):
    """The shortest coding of a row, of equally long ones that of the first kind."""
    _check_row(row)
    told = _all_codings(row)
    best = told["plain"]
    for kind in KINDS:
        if kind in told and len(told[kind]) < len(best):
            best = told[kind]
    return best


def decoded(text):
    """The row that a text tells."""
    return row_of_text(text)


def length_of(text):
    """How many entries the row of a text has."""
    return len(row_of_text(text))


def _check_index(row, index):
    if not is_between(index, 0, len(row) - 1):
        raise InvalidNumber(index)


def entry_at(text, index):
    """The entry with an index of the row of a text."""
    row = row_of_text(text)
    _check_index(row, index)
    return row[index]


def is_coding(row, value):
    """Whether the value is a text that tells a row."""
    _check_row(row)
    try:
        told = row_of_text(value)
    except ParseError:
        return False
    return told == row


def changed_at(text, index, entry):
    """The shortest coding of the row of a text with another entry."""
    row = row_of_text(text)
    _check_index(row, index)
    if not _is_entry(entry):
        raise InvalidWorth(entry)
    return coded(row[:index] + (entry,) + row[index + 1:])


def joined(one, other):
    """The shortest coding of the rows of two texts, one behind the other."""
    first = row_of_text(one)
    second = row_of_text(other)
    if len(first) + len(second) > MAX_ROW:
        raise TooMany(MAX_ROW)
    return coded(first + second)
