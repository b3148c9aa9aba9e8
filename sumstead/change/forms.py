"""Edits by their form, whatever outline they are made for."""

from sumstead.base.integers import is_between
from sumstead.base.reckoning import added
from sumstead.base.worths import ONE, is_name, is_weight
from sumstead.outline.trees import are_names, is_pair

_MOST_INDEX = 30
_MOST_MEMBERS = 30
_MOST_PARTS = 10

# For each word the kinds of what stands behind it.
_KINDS = {
    "add": ("name", "name"), "drop": ("name", "name"), "rename": ("name", "name", "name"),
    "move": ("name", "name", "name", "name", "index", "weight"), "group": ("name", "name", "members", "name"),
    "ungroup": ("name", "name"), "split": ("name", "name", "parts"), "join": ("name", "leaves", "name"),
    "weight": ("name", "name", "name", "weight"),
}


def _are_members(value):
    """Whether the value is a tuple of names; one that is told twice stands nowhere behind itself."""
    if type(value) is not tuple or not 1 <= len(value) <= _MOST_MEMBERS:
        return False
    return all([is_name(name) for name in value])


def _are_parts(value):
    """Whether the value is a tuple of pairs (name, share) of the parts of a leaf."""
    if type(value) is not tuple or not all([is_pair(pair) and is_weight(pair[1]) for pair in value]):
        return False
    if not are_names(tuple([name for name, _ in value]), 2, _MOST_PARTS):
        return False
    total = None
    for _, share in value:
        total = added(total, share)
    return total == ONE


def _is_part(kind, value):
    if kind == "name":
        return is_name(value)
    if kind == "index":
        return is_between(value, 0, _MOST_INDEX)
    if kind == "weight":
        return is_weight(value)
    if kind == "members":
        return _are_members(value)
    if kind == "parts":
        return _are_parts(value)
    return are_names(value, 2, _MOST_MEMBERS)


def is_edit(value):
    """Whether the value is an edit."""
    if type(value) is not tuple or len(value) == 0 or type(value[0]) is not str or value[0] not in _KINDS:
        return False
    kinds = _KINDS[value[0]]
    return len(value) == 1 + len(kinds) and all([_is_part(kind, part) for kind, part in zip(kinds, value[1:])])
