"""Passes: sound code in, and sound code out that tells the same with the same refusals."""

from sumstead.code.folding import folded_code
from sumstead.code.making import MAX_SLOTS
from sumstead.code.pruning import pruned_code
from sumstead.code.states import checked_states
from sumstead.errors import InvalidOperation

PASSES = ("folded", "pruned", "threaded", "shared")

_MOST_WORDS = 20
_MOST_SHARED = 1000
_BARS_SHARING = ("jump", "unless", "fold", "set", "get")


def folded(code):
    """The code with operators of constants reckoned ahead."""
    return folded_code(code, checked_states(code))


def pruned(code):
    """The code without what is never come to, and without choices that are told ahead."""
    checked_states(code)
    return pruned_code(code)


def threaded(code):
    """The code with jumps that lead to no further jump."""
    checked_states(code)
    ends = {}
    found = []
    # A jump leads to a later instruction: so the end of its way is known when it is its turn.
    for index, instruction in list(enumerate(code))[::-1]:
        if instruction[0] == "jump" or instruction[0] == "unless":
            instruction = (instruction[0], ends.get(instruction[1], instruction[1]))
        if instruction[0] == "jump":
            ends[index] = instruction[1]
        found.append(instruction)
    return tuple(found[::-1])


def _are_shared(code, slots):
    """Whether code has the form in which equal moves are asked once."""
    if len(code) > _MOST_SHARED or len(slots) > MAX_SLOTS:
        return False
    return not any([instruction[0] in _BARS_SHARING for instruction in code])


def _asks_of(code):
    """How often each moves of an `at` instruction stand in the code."""
    counts = {}
    for instruction in code:
        if instruction[0] == "at":
            counts[instruction[1]] = counts.get(instruction[1], 0) + 1
    return counts


def shared(code):
    """The code in which no place is asked twice, if no way parts in it."""
    checked_states(code)
    counts = _asks_of(code)
    if not _are_shared(code, counts):
        return code
    slots = {}
    found = []
    for instruction in code:
        if instruction[0] != "at" or counts[instruction[1]] == 1:
            found.append(instruction)
        elif instruction[1] in slots:
            found.append(("get", slots[instruction[1]]))
        else:
            slots[instruction[1]] = len(slots)
            found.extend([instruction, ("set", slots[instruction[1]])])
    return tuple(found)


def _are_words(value):
    if type(value) is not tuple or len(value) > _MOST_WORDS:
        return False
    return all([word in PASSES for word in value])


def passed(code, words):
    """The code behind some passes, one after the other."""
    checked_states(code)
    if not _are_words(words):
        raise InvalidOperation(words)
    for word in words:
        one_pass = _BY_WORD[word]
        code = one_pass(code)
    return code


_BY_WORD = {"folded": folded, "pruned": pruned, "threaded": threaded, "shared": shared}
