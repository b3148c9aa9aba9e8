"""The grammar of questions, as goals of a parser, and how questions are written."""

from sumstead.ask.questions import parts_of
from sumstead.text.grammar import formula_goal, test_goal
from sumstead.text.parser import begin_list, make, put_in_list, take_integer, take_name, take_sign
from sumstead.text.writing import node_text


def question_goal(parser, given):
    """Q: a question; it makes one value."""
    word = parser.next_text()
    if word == "all" or word == "leaves":
        parser.take()
        parser.made.append((word,))
    elif word == "members":
        parser.take()
        parser.aim([(take_sign, "("), (begin_list, None), (_names, None), (take_sign, ")"), (_end_names, None)])
    else:
        goals = _goals_behind(word)
        if goals is None:
            parser.refuse()
        parser.take()
        parser.aim([(take_sign, "(")] + goals + [(take_sign, ")"), (make, (word, (len(goals) + 1) // 2))])


def _goals_behind(word):
    """The goals of the parts of a question, with the commas between them, or None for another word."""
    question = (question_goal, None)
    comma = (take_sign, ",")
    if word == "children" or word == "under":
        return [(take_name, None)]
    if word == "level":
        return [(take_name, None), comma, (take_integer, None)]
    if word == "union" or word == "less" or word == "meet":
        return [question, comma, question]
    if word == "filter":
        return [question, comma, (test_goal, None)]
    if word == "order":
        return [question, comma, (formula_goal, None), comma, (_way, None)]
    if word == "first":
        return [question, comma, (take_integer, None)]
    if word == "best":
        return [question, comma, (take_integer, None), comma, (formula_goal, None)]
    return None


def _names(parser, given):
    """Names, or none, with commas between them; they go into the list that was made last."""
    if parser.next_text() != ")":
        parser.aim([(take_name, None), (put_in_list, None), (_more_names, None)])


def _more_names(parser, given):
    if parser.next_text() == ",":
        parser.take()
        parser.aim([(take_name, None), (put_in_list, None), (_more_names, None)])


def _end_names(parser, given):
    parser.made.append(("members", tuple(parser.made.pop())))


def _way(parser, given):
    if parser.next_text() != "up" and parser.next_text() != "down":
        parser.refuse()
    parser.made.append(parser.take())


def _part_text(kind, part):
    if kind == "question":
        return question_text(part)
    if kind == "test" or kind == "formula":
        return node_text(part)
    if kind == "names":
        return ", ".join(part)
    return str(part)


def question_text(question):
    """The text of a question that is known to be one."""
    if len(question) == 1:
        return question[0]
    told = ", ".join([_part_text(kind, part) for kind, part in parts_of(question)])
    return f"{question[0]}({told})"
