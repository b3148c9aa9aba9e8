"""Sets of members: questions for the members of one side."""

from sumstead.ask.asking import Asker
from sumstead.ask.grammar import question_goal, question_text
from sumstead.ask.questions import is_question_tree, question_suits
from sumstead.errors import InvalidQuestion, Refused, UnknownName
from sumstead.outline.outlines import check_outline
from sumstead.plain.cubes import check_cube_place
from sumstead.text.parser import Parser

MAX_QUESTIONS = 20
QUESTION_DEPTH = 6
MAX_ASKED = 100


def is_question(value):
    """Whether the value is a question."""
    return is_question_tree(value, MAX_QUESTIONS, QUESTION_DEPTH)


def _check_side(outline, side):
    if side not in outline.names:
        raise UnknownName(side)


def _can_ask(outline, side, value):
    return is_question(value) and question_suits(outline, outline.side(side), value)


def does_ask(outline, side, value):
    """Whether the value is a question that can be asked for a side of the outline."""
    check_outline(outline)
    _check_side(outline, side)
    return _can_ask(outline, side, value)


def members_of(cube, place, side, question):
    """The members of a side that a question tells at a place, or the first refusal."""
    check_cube_place(cube, place)
    _check_side(cube.outline, side)
    if not _can_ask(cube.outline, side, question):
        raise InvalidQuestion(question)
    try:
        found = Asker(cube, place, side).members_by(question)
    except Refused as refusal:
        return ("refused", refusal.reason)
    return ("members", tuple(found))


def write_question(question):
    """The text of a question."""
    if not is_question(question):
        raise InvalidQuestion(question)
    return question_text(question)


def read_question(text):
    """The question that a text tells."""
    made = Parser(text).run([(question_goal, None)])
    if not is_question(made[0]):
        raise InvalidQuestion(text)
    return made[0]
