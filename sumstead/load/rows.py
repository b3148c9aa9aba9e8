"""Rows of fields: what is one, and what it tells by a map."""

from sumstead.base.integers import is_between
from sumstead.base.signs import is_printable
from sumstead.base.worths import is_cell_worth, read_worth
from sumstead.errors import ParseError

_LONGEST_FIELD = 100


def _is_field(value):
    return type(value) is str and len(value) <= _LONGEST_FIELD and is_printable(value)


def _is_row(value, most):
    return type(value) is tuple and len(value) <= most and all([_is_field(field) for field in value])


def are_rows(value, most, most_fields):
    """Whether the value is a tuple of at most so many rows of at most so many fields."""
    if type(value) is not tuple or len(value) > most:
        return False
    return all([_is_row(row, most_fields) for row in value])


def is_map(outline, value, most_fields):
    """Whether the value tells a leaf, or a field that names one, for each side."""
    if type(value) is not tuple or len(value) != len(outline):
        return False
    return all([_is_entry(side, entry, most_fields) for side, entry in zip(outline.sides, value)])


def _is_entry(side, value, most_fields):
    return side.is_leaf(value) or is_between(value, 0, most_fields - 1)


def _field_at(row, index):
    """The text of a field without blanks at both ends, or None if there is no such field."""
    return row[index].strip(" ") if index < len(row) else None


def _against_leaf(side, index, text):
    """Why a field names no leaf of a side, or None."""
    if text is None:
        return ("short", index)
    if text not in side:
        return ("unknown", side.name, text)
    return None if side.is_leaf(text) else ("group", side.name, text)


def _cell_worth_of(text):
    """The cell worth that a text tells, or None."""
    try:
        told = read_worth(text)
    except ParseError:
        return None
    return told if is_cell_worth(told) else None


def reason_against(outline, fields, worth_field, row):
    """The first reason for which a row is refused, or None."""
    for side, entry in zip(outline.sides, fields):
        if type(entry) is int:
            reason = _against_leaf(side, entry, _field_at(row, entry))
            if reason is not None:
                return reason
    text = _field_at(row, worth_field)
    if text is None:
        return ("short", worth_field)
    return ("worth", text) if _cell_worth_of(text) is None else None


def leaf_place_of(fields, row):
    """The leaf place that a row tells, which is not refused."""
    return tuple([_field_at(row, entry) if type(entry) is int else entry for entry in fields])


def worth_of(worth_field, row):
    """The cell worth that a row tells, which is not refused."""
    return _cell_worth_of(_field_at(row, worth_field))
