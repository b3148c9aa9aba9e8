"""Worths: exact fractions, and what stands beside them in outlines and cells."""

from math import gcd

from sumstead.base.integers import MOST_PASSED, has_more_digits, is_between, is_integer, is_integer_of
from sumstead.base.reckoning import added, divided, is_less, lowest, multiplied, opposite, summed
from sumstead.errors import InvalidNumber, InvalidOperation, InvalidWorth, ParseError, Refused

ZERO = (0, 1)
ONE = (1, 1)
MOST_DIGITS = 1000

_LONGEST = 4000
_LONGEST_NAME = 8
_LETTERS = "abcdefghijklmnopqrstuvwxyz"
_DIGITS = "0123456789"
_NOTHING = "nothing"


def is_worth(value):
    """Whether the value is a worth, with integers of any length."""
    if type(value) is not tuple or len(value) != 2:
        return False
    top, bottom = value
    if not is_integer(top) or not is_integer(bottom):
        return False
    return bottom >= 1 and gcd(top, bottom) == 1


def is_name(value):
    """Whether the value is a name."""
    if type(value) is not str or not 1 <= len(value) <= _LONGEST_NAME:
        return False
    return value[0] in _LETTERS and all([sign in _LETTERS or sign in _DIGITS for sign in value])


def is_cell_worth(value):
    """Whether the value is a worth that a cell can have."""
    return is_worth(value) and not has_more_digits(value[0], 18) and value[1] <= 1000


def is_weight(value):
    """Whether the value is a weight of a child."""
    return is_worth(value) and value[0] != 0 and is_between(value[0], -99, 99) and value[1] <= 10


def _is_known(value):
    """Whether the value is a worth of the length that this module takes."""
    if not is_worth(value):
        return False
    return not has_more_digits(value[0], _LONGEST) and not has_more_digits(value[1], _LONGEST)


def _check_worth(value):
    if not _is_known(value):
        raise InvalidWorth(value)


def _check_operands(one, other):
    if one is not None:
        _check_worth(one)
    if other is not None:
        _check_worth(other)


def worth(top, bottom=1):
    """The worth of a fraction."""
    if not is_integer_of(top, _LONGEST):
        raise InvalidNumber(top)
    if not is_integer_of(bottom, _LONGEST) or bottom == 0:
        raise InvalidNumber(bottom)
    return lowest(top, bottom)


def plus(one, other):
    """The sum of two worths; nothing is left out."""
    _check_operands(one, other)
    return added(one, other)


def minus(one, other):
    """The difference of two worths; nothing is left out."""
    _check_operands(one, other)
    return added(one, opposite(other))


def times(one, other):
    """The product of two worths; nothing makes it nothing."""
    _check_operands(one, other)
    return multiplied(one, other)


def over(one, other):
    """The quotient of two worths; nothing makes it nothing."""
    _check_operands(one, other)
    if one is not None and other == ZERO:
        raise Refused(("zero",))
    if one is None:
        return None
    return divided(one, other)


def _is_pair(value):
    if type(value) is not tuple or len(value) != 2 or not _is_known(value[0]):
        return False
    return value[1] is None or _is_known(value[1])


def weighted_sum(pairs):
    """The sum of the products of pairs (weight, worth or None)."""
    if type(pairs) is not tuple or not all([_is_pair(pair) for pair in pairs]):
        raise InvalidOperation(pairs)
    return summed(pairs)


def is_below(one, other):
    """Whether one worth is less than another one."""
    _check_worth(one)
    _check_worth(other)
    return is_less(one, other)


def is_over_great(one):
    """Whether a worth, of any length, has more digits than the plain reading tells."""
    return has_more_digits(one[0], MOST_DIGITS) or has_more_digits(one[1], MOST_DIGITS)


def is_great(worth):
    """Whether a worth has more digits than the plain reading tells."""
    _check_worth(worth)
    return is_over_great(worth)


def worth_text(worth):
    """The text of a worth, or of nothing."""
    if worth is None:
        return _NOTHING
    _check_worth(worth)
    if worth[1] == 1:
        return str(worth[0])
    return f"{worth[0]}/{worth[1]}"


def _read_digits(text, begin, firsts):
    """Where a number ends whose first digit is one of some."""
    if begin == len(text) or text[begin] not in firsts:
        raise ParseError(begin)
    end = begin + 1
    if text[begin] == "0":
        return end
    while end < len(text) and text[end] in _DIGITS:
        if end - begin == MOST_PASSED:
            raise ParseError(end)
        end += 1
    return end


def _read_nothing(text):
    for index, sign in enumerate(_NOTHING):
        if index == len(text) or text[index] != sign:
            raise ParseError(index)
    if len(text) > len(_NOTHING):
        raise ParseError(len(_NOTHING))


def worth_from(text, begin):
    """The worth whose text begins at an index of a text, and where it ends."""
    first = begin
    firsts = _DIGITS
    if text[begin:begin + 1] == "-":
        first = begin + 1
        firsts = _DIGITS[1:]
    end = _read_digits(text, first, firsts)
    if text[end:end + 1] != "/":
        return ((int(text[begin:end]), 1), end)
    last = _read_digits(text, end + 1, _DIGITS[1:])
    return (lowest(int(text[begin:end]), int(text[end + 1:last])), last)


def read_worth(text):
    """The worth that a text tells, or None for nothing."""
    if type(text) is not str:
        raise ParseError(None)
    if text[:1] == "n":
        _read_nothing(text)
        return None
    told, end = worth_from(text, 0)
    if end < len(text):
        raise ParseError(end)
    return told
