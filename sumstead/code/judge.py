"""The judge of code: whether it is sound, and what stands ahead of its instructions."""

from sumstead.base.integers import is_between
from sumstead.code.making import MAX_SLOTS
from sumstead.code.states import checked_states, sound_states
from sumstead.errors import InvalidNumber


def is_sound(value):
    """Whether the value is sound code."""
    return sound_states(value) is not None


def heights(code):
    """For each instruction the kinds of the operands ahead of it, or None if no way leads there."""
    return tuple([None if state is None else state[0] for state in checked_states(code)])


def slots_at(code, index):
    """The slots that are set on each way to an instruction."""
    states = checked_states(code)
    if not is_between(index, 0, len(code) - 1) or states[index] is None:
        raise InvalidNumber(index)
    slots = states[index][2]
    return tuple([slot for slot in range(MAX_SLOTS) if slots & (1 << slot) != 0])


def needs_of(code):
    """All different moves of the `at` instructions to which a way leads, ascending."""
    states = checked_states(code)
    found = [instruction[1] for instruction, state in zip(code, states)
             if state is not None and instruction[0] == "at"]
    return tuple(sorted(set(found)))
