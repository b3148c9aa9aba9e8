"""The pass that reckons ahead what stands behind constants."""

from sumstead.code.rebuilding import Rebuilt, assembled, plain_ones
from sumstead.code.states import EFFECTS
from sumstead.errors import Refused
from sumstead.plain.ways import WorthWays

_CONSTANTS = ("worth", "nothing", "truth")
_RECKONED = ("plus", "minus", "times", "over")
_COMPARED = ("below", "same")
_OPERATORS = ("plus", "minus", "times", "over", "below", "same", "there", "not")


def _value_of(constant):
    return None if constant[0] == "nothing" else constant[1]


def _reckoned(word, one, other):
    """The constant that an operator of two worths pushes, or None if it refuses."""
    try:
        told = WorthWays({}).reckon((), word, one, other)
    except Refused:
        return None
    return ("nothing",) if told is None else ("worth", told)


def _result(word, values):
    """The constant that an operator of constants pushes, or None if it refuses."""
    if word in _RECKONED:
        return _reckoned(word, values[0], values[1])
    if word in _COMPARED:
        return ("truth", WorthWays({}).holds(word, values[0], values[1]))
    if word == "there":
        return ("truth", values[0] is not None)
    return ("truth", not values[0])


def _constants_ahead(rebuilt, many, plain):
    """The last instructions, if they are so many constants, all plain but perhaps the first one; or None."""
    last = rebuilt[len(rebuilt) - many:]
    if len(rebuilt) < many or not all([one.told_word() in _CONSTANTS for one in last]):
        return None
    if not all([plain[one.olds[0]] for one in last[1:]]):
        return None
    return last


def _told_ahead(word, rebuilt, plain):
    """The constant that an operator pushes, with its constants; None if it is left."""
    last = _constants_ahead(rebuilt, len(EFFECTS[word][0]), plain)
    if last is None:
        return None
    constant = _result(word, [_value_of(one.instruction) for one in last])
    if constant is None:
        return None
    return (constant, last)


def folded_code(code, states):
    """Sound code in which operators of constants are constants, unless they refuse."""
    plain = plain_ones(code)
    rebuilt = []
    for index, instruction in enumerate(code):
        told = None
        # Where no way leads, operands need not have the right kinds.
        if instruction[0] in _OPERATORS and plain[index] and states[index] is not None:
            told = _told_ahead(instruction[0], rebuilt, plain)
        if told is None:
            rebuilt.append(Rebuilt(instruction, [index]))
        else:
            constant, last = told
            del rebuilt[len(rebuilt) - len(last):]
            # Only the first constant can be named.
            rebuilt.append(Rebuilt(constant, last[0].olds))
    return assembled(rebuilt)
