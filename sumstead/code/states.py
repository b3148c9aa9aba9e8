"""What stands ahead of each instruction of code: the kinds of operands, the open folds, the slots that are set.

Each way leads on to later instructions, but for the way from a `next` back behind its fold. That way comes
as the one from the fold does, with no slot less. So one look at the instructions in their order is enough.
"""

from sumstead.code.making import is_code
from sumstead.errors import InvalidCode

MOST_FOLDS = 2

# For each word the kinds that are popped, and those that are pushed.
EFFECTS = {
    "worth": ("", "w"), "nothing": ("", "w"), "truth": ("", "t"), "at": ("", "w"),
    "plus": ("ww", "w"), "minus": ("ww", "w"), "times": ("ww", "w"), "over": ("ww", "w"),
    "below": ("ww", "t"), "same": ("ww", "t"), "there": ("w", "t"), "not": ("t", "t"),
    "jump": ("", ""), "unless": ("t", ""), "set": ("w", "w"), "get": ("", "w"),
}


def _base(folds):
    """How many operands stand below the innermost fold of pairs (index, operands)."""
    return folds[-1][1] if len(folds) > 0 else 0


def _ways_from_fold(instruction, index, state):
    kinds, folds, slots = state
    if len(folds) == MOST_FOLDS:
        return None
    inside = (kinds, folds + ((index, len(kinds)),), slots)
    return [(index + 1, inside), (instruction[4], (kinds + "w", folds, slots))]


def _ways_from_next(code, index, state):
    kinds, folds, slots = state
    if len(folds) == 0:
        return None
    at, base = folds[-1]
    if code[at][4] != index + 1 or kinds[base:] != "w":
        return None
    return [(index + 1, (kinds, folds[:-1], slots))]


def _ways_from(code, index, state):
    """The pairs (index, state) to which the ways from an instruction lead on; None if it cannot stand there."""
    instruction = code[index]
    word = instruction[0]
    kinds, folds, slots = state
    if word == "tell":
        return [] if kinds == "w" and len(folds) == 0 else None
    if word == "fold":
        return _ways_from_fold(instruction, index, state)
    if word == "next":
        return _ways_from_next(code, index, state)
    popped, pushed = EFFECTS[word]
    if not kinds[_base(folds):].endswith(popped):
        return None
    if word == "get" and slots & (1 << instruction[1]) == 0:
        return None
    if word == "set":
        slots = slots | (1 << instruction[1])
    behind = (kinds[:len(kinds) - len(popped)] + pushed, folds, slots)
    if word == "jump":
        return [(instruction[1], behind)]
    if word == "unless":
        return [(index + 1, behind), (instruction[1], behind)]
    return [(index + 1, behind)]


def _joined(one, other):
    """The state of two ways to one instruction, or None if they come unlike."""
    if one is None:
        return other
    if one[0] != other[0] or one[1] != other[1]:
        return None
    return (one[0], one[1], one[2] & other[2])


def states_of(code):
    """For each instruction the triple (kinds, open folds, slots) ahead of it, or None if no way leads there.

    Slots are the bits of a number. Instead of all it is None if code, which has its form, is not sound.
    """
    states = [None] * len(code)
    states[0] = ("", (), 0)
    for index in range(len(code)):
        if states[index] is None:
            continue
        ways = _ways_from(code, index, states[index])
        if ways is None:
            return None
        for goal, state in ways:
            if goal == len(code):
                return None
            states[goal] = _joined(states[goal], state)
            if states[goal] is None:
                return None
    return states


def sound_states(value):
    """The states of a value that is sound code; None for any other value."""
    if not is_code(value):
        return None
    return states_of(value)


def checked_states(code):
    """The states of code; refuses what is no sound code."""
    states = sound_states(code)
    if states is None:
        raise InvalidCode(code)
    return states
