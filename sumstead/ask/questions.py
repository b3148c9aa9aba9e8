"""Questions as trees: their form, and what they name."""

from sumstead.base.integers import is_between
from sumstead.base.worths import is_name
from sumstead.outline.trees import are_names
from sumstead.plain.formulas import is_formula, is_test
from sumstead.plain.nodes import node_suits

MOST_ASKED = 100
MOST_STEPS = 6

# For each word the kinds of the parts behind it.
_PARTS = {
    "all": (), "leaves": (), "members": ("names",), "children": ("name",), "under": ("name",),
    "level": ("name", "steps"), "union": ("question", "question"), "less": ("question", "question"),
    "meet": ("question", "question"), "filter": ("question", "test"),
    "order": ("question", "formula", "way"), "first": ("question", "many"),
    "best": ("question", "many", "formula"),
}


def parts_of(question):
    """The pairs (kind, part) of a question."""
    return list(zip(_PARTS[question[0]], question[1:]))


def inner_questions(question):
    """The questions that are parts of a question."""
    return [part for kind, part in parts_of(question) if kind == "question"]


def _is_part(kind, part):
    if kind == "names":
        return are_names(part, 0, MOST_ASKED)
    if kind == "name":
        return is_name(part)
    if kind == "steps":
        return is_between(part, 0, MOST_STEPS)
    if kind == "many":
        return is_between(part, 1, MOST_ASKED)
    if kind == "test":
        return is_test(part)
    if kind == "formula":
        return is_formula(part)
    # Inner questions are looked at on their own.
    return kind == "question" or part == "up" or part == "down"


def _has_form(value):
    if type(value) is not tuple or len(value) == 0 or type(value[0]) is not str:
        return False
    if value[0] not in _PARTS or len(value) != 1 + len(_PARTS[value[0]]):
        return False
    return all([_is_part(kind, part) for kind, part in parts_of(value)])


def is_question_tree(value, most, deepest):
    """Whether the value is a question of at most so many questions and so deep."""
    left = [(value, 1)]
    many = 0
    while len(left) > 0:
        one, depth = left.pop()
        many += 1
        if many > most or depth > deepest or not _has_form(one):
            return False
        left.extend([(part, depth + 1) for part in inner_questions(one)])
    return True


def _suits(outline, side, question):
    """Whether a side has what a question names itself, and the outline what its formulas name."""
    for kind, part in parts_of(question):
        if kind == "names" and not all([member in side for member in part]):
            return False
        if kind == "name" and question[0] == "level" and part not in side.names:
            return False
        if kind == "name" and question[0] != "level" and part not in side:
            return False
        if (kind == "test" or kind == "formula") and not node_suits(outline, part):
            return False
    return True


def question_suits(outline, side, question):
    """Whether a question can be asked for a side of an outline."""
    left = [question]
    while len(left) > 0:
        one = left.pop()
        if not _suits(outline, side, one):
            return False
        left.extend(inner_questions(one))
    return True
