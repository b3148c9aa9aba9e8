"""The grammar of formulas and tests, as goals of a parser; each formula and test makes one value."""

from sumstead.text.parser import begin_list, make, put_in_list
from sumstead.text.parser import take_integer, take_name, take_names, take_number, take_sign
from sumstead.text.tokens import NUMBER

_SUMS = {"+": "plus", "-": "minus"}
_PRODUCTS = {"*": "times", "/": "over"}
_COMPARISONS = {"<": "below", "=": "same"}


def formula_goal(parser, given):
    """F: products with + and - between them."""
    parser.aim([(_product, None), (_more_products, None)])


def _more_products(parser, given):
    if parser.next_text() in _SUMS:
        word = _SUMS[parser.take()]
        parser.aim([(_product, None), (make, (word, 2)), (_more_products, None)])


def _product(parser, given):
    parser.aim([(_part, None), (_more_parts, None)])


def _more_parts(parser, given):
    if parser.next_text() in _PRODUCTS:
        word = _PRODUCTS[parser.take()]
        parser.aim([(_part, None), (make, (word, 2)), (_more_parts, None)])


def _part(parser, given):
    """P: what stands between operators."""
    text = parser.next_text()
    if parser.next_kind() == NUMBER:
        parser.aim([(take_number, None), (make, ("worth", 1))])
    elif text == "nothing":
        parser.take()
        parser.made.append(("nothing",))
    elif text == "[":
        parser.take()
        parser.aim([(begin_list, None), (_moves, None)])
    elif text == "(":
        parser.take()
        parser.aim([(formula_goal, None), (take_sign, ")")])
    elif text == "if":
        parser.take()
        parser.aim([(take_sign, "("), (test_goal, None), (take_sign, ","), (formula_goal, None),
                    (take_sign, ","), (formula_goal, None), (take_sign, ")"), (make, ("if", 3))])
    elif text == "sum" or text == "first" or text == "last":
        parser.take()
        parser.aim([(take_sign, "("), (take_name, None), (take_sign, ","), (_span, None),
                    (take_sign, ","), (formula_goal, None), (take_sign, ")"), (make, (text, 3))])
    else:
        parser.refuse()


def _moves(parser, given):
    """Moves, or none, up to their end."""
    if parser.next_text() == "]":
        parser.aim([(_end_moves, None)])
    else:
        parser.aim([(_move, None), (_more_moves, None)])


def _more_moves(parser, given):
    if parser.next_text() == ",":
        parser.take()
        parser.aim([(_move, None), (_more_moves, None)])
    else:
        parser.aim([(_end_moves, None)])


def _end_moves(parser, given):
    take_sign(parser, "]")
    moves = parser.made.pop()
    parser.made.append(("at", tuple(sorted(moves))))


def _move(parser, given):
    parser.aim([(take_name, None), (_way, None), (_end_move, None), (put_in_list, None)])


def _way(parser, given):
    word = parser.next_text()
    if word == "to" or word == "parent":
        parser.take()
        parser.aim([(take_name, None), (make, (word, 1))])
    elif word == "step":
        parser.take()
        parser.aim([(take_integer, None), (make, (word, 1))])
    else:
        parser.refuse()


def _end_move(parser, given):
    move = parser.made.pop()
    side = parser.made.pop()
    parser.made.append((side, move))


def _span(parser, given):
    word = parser.next_text()
    if word == "leaves":
        parser.take()
        parser.made.append(("leaves",))
    elif word == "of":
        parser.take()
        parser.aim([(begin_list, None), (take_names, None), (_end_of, None)])
    elif word == "children" or word == "sofar":
        parser.take()
        parser.aim([(take_name, None), (make, (word, 1))])
    elif word == "window":
        parser.take()
        parser.aim([(take_integer, None), (make, (word, 1))])
    else:
        parser.refuse()


def _end_of(parser, given):
    parser.made.append(("members", tuple(parser.made.pop())))


def test_goal(parser, given):
    """T: a test."""
    word = parser.next_text()
    if word == "there":
        parser.take()
        parser.aim([(take_sign, "("), (formula_goal, None), (take_sign, ")"), (make, (word, 1))])
    elif word == "not":
        parser.take()
        parser.aim([(take_sign, "("), (test_goal, None), (take_sign, ")"), (make, (word, 1))])
    elif word == "both" or word == "either":
        parser.take()
        parser.aim([(take_sign, "("), (test_goal, None), (take_sign, ","), (test_goal, None), (take_sign, ")"),
                    (make, (word, 2))])
    else:
        parser.aim([(formula_goal, None), (_comparison, None)])


def _comparison(parser, given):
    if parser.next_text() not in _COMPARISONS:
        parser.refuse()
    word = _COMPARISONS[parser.take()]
    parser.aim([(formula_goal, None), (make, (word, 2))])
