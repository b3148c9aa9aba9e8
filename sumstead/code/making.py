"""Code: what is one by its form, and the code of a formula."""

from sumstead.base.integers import is_between
from sumstead.base.worths import is_name, is_over_great, is_worth
from sumstead.errors import InvalidRule
from sumstead.plain.formulas import is_formula
from sumstead.plain.moves import are_moves, is_span

MAX_CODE = 2000
MAX_SLOTS = 60

_ALONE = ("nothing", "plus", "minus", "times", "over", "below", "same", "there", "not", "next", "tell")
_FOLDS = ("sum", "first", "last")
_ENDS = ("worth", "nothing", "at")
_CHOICES = ("if", "both", "either")


def _is_fold(value, index, many):
    """Whether a tuple that begins as a fold has the form of one, at an index of so many instructions."""
    if len(value) != 5 or value[1] not in _FOLDS or not is_name(value[2]) or not is_span(value[3]):
        return False
    return is_between(value[4], index + 1, many - 1)


def _is_instruction(value, index, many):
    """Whether the value has the form of an instruction, at an index of so many."""
    if type(value) is not tuple or len(value) == 0 or type(value[0]) is not str:
        return False
    word = value[0]
    if word in _ALONE:
        return len(value) == 1
    if word == "fold":
        return _is_fold(value, index, many)
    if len(value) != 2:
        return False
    given = value[1]
    if word == "worth":
        return is_worth(given) and not is_over_great(given)
    if word == "truth":
        return type(given) is bool
    if word == "at":
        return are_moves(given)
    if word == "jump" or word == "unless":
        return is_between(given, index + 1, many - 1)
    return (word == "set" or word == "get") and is_between(given, 0, MAX_SLOTS - 1)


def is_code(value):
    """Whether the value is code by its form."""
    if type(value) is not tuple or not 1 <= len(value) <= MAX_CODE:
        return False
    many = len(value)
    return all([_is_instruction(instruction, index, many) for index, instruction in enumerate(value)])


def _coded(node, begin):
    """The instructions of a formula, or a test, that stand from an index on."""
    word = node[0]
    if word in _ENDS:
        return [node]
    if word in _FOLDS:
        inner = _coded(node[3], begin + 1)
        return [("fold", word, node[1], node[2], begin + len(inner) + 2)] + inner + [("next",)]
    if word in _CHOICES:
        return _coded_choice(node, begin)
    found = []
    for part in node[1:]:
        found = found + _coded(part, begin + len(found))
    return found + [(word,)]


def _coded_choice(node, begin):
    """The instructions of a node of which one part is not read; the test comes first."""
    test = _coded(node[1], begin)
    if node[0] == "either":
        first = [("truth", True)]
        second = _coded(node[2], begin + len(test) + 3)
    else:
        first = _coded(node[2], begin + len(test) + 1)
        second = [("truth", False)]
    other_at = begin + len(test) + len(first) + 2
    if node[0] == "if":
        second = _coded(node[3], other_at)
    end = other_at + len(second)
    return test + [("unless", other_at)] + first + [("jump", end)] + second


def code_of(formula):
    """The code that tells the same as a formula."""
    if not is_formula(formula):
        raise InvalidRule(formula)
    return tuple(_coded(formula, 0) + [("tell",)])
