"""Texts of formulas and of rules."""

from sumstead.base.integers import is_between
from sumstead.errors import InvalidRule
from sumstead.outline.outlines import check_outline
from sumstead.plain.formulas import is_formula
from sumstead.plain.rules import MAX_RANK, Rule
from sumstead.text.grammar import formula_goal
from sumstead.text.parser import Parser, begin_list, put_in_list
from sumstead.text.parser import take_integer, take_name, take_names, take_sign
from sumstead.text.writing import node_text


def write_formula(formula):
    """The text of a formula."""
    if not is_formula(formula):
        raise InvalidRule(formula)
    return node_text(formula)


def read_formula(text):
    """The formula that a text tells."""
    made = Parser(text).run([(formula_goal, None)])
    if not is_formula(made[0]):
        raise InvalidRule(text)
    return made[0]


def write_rule(outline, rule):
    """The text of a rule that suits an outline."""
    check_outline(outline)
    if not isinstance(rule, Rule) or not rule.suits(outline):
        raise InvalidRule(rule)
    entries = []
    for side, entry in zip(outline.names, rule.area):
        if entry is not None:
            entries.append(f"{side}: {' '.join(entry)}")
    return f"{rule.rank} ({', '.join(entries)}) = {node_text(rule.formula)}"


def _entries(parser, given):
    """Entries, or none, up to their end; the list of pairs (side, names)."""
    parser.made.append([])
    if parser.next_text() != ")":
        parser.aim([(_entry, None), (_more_entries, None)])


def _more_entries(parser, given):
    if parser.next_text() == ",":
        parser.take()
        parser.aim([(_entry, None), (_more_entries, None)])


def _entry(parser, given):
    parser.aim([(take_name, None), (take_sign, ":"), (begin_list, None), (take_names, None), (_end_entry, None),
                (put_in_list, None)])


def _end_entry(parser, given):
    members = parser.made.pop()
    side = parser.made.pop()
    parser.made.append((side, tuple(sorted(members))))


def _area_of(outline, entries):
    """The area that pairs (side, names) tell, each side once."""
    told = {side: members for side, members in entries}
    if len(told) < len(entries) or not all([side in outline.names for side in told]):
        raise InvalidRule("no area")
    return tuple([told.get(side, None) for side in outline.names])


def read_rule(outline, text):
    """The rule that a text tells; it suits the outline."""
    check_outline(outline)
    goals = [(take_integer, None), (take_sign, "("), (_entries, None), (take_sign, ")"), (take_sign, "="),
             (formula_goal, None)]
    rank, entries, told = Parser(text).run(goals)
    if not is_between(rank, 0, MAX_RANK):
        raise InvalidRule(text)
    rule = Rule(_area_of(outline, entries), told, rank)
    if not rule.suits(outline):
        raise InvalidRule(text)
    return rule
