"""What is left of sides and of rules without some leaves."""

from sumstead.outline.outlines import Side
from sumstead.plain.moves import move_suits, span_suits
from sumstead.plain.nodes import rebuilt
from sumstead.plain.rules import Rule


def _cut_rows(rows, kept):
    """The rows of a hierarchy whose groups have children left; groups that are kept are put among the kept ones."""
    found = []
    # A group stands as a child in a row ahead of its own: so its children are known when it is its turn.
    for group, children in rows[::-1]:
        left = tuple([(child, weight) for child, weight in children if child in kept])
        if len(left) > 0:
            kept[group] = True
            found.append((group, left))
    return tuple(found[::-1])


def cut_side(side, hidden):
    """The side without some of its leaves, groups without children, and hierarchies without groups."""
    leaves = tuple([leaf for leaf in side.leaves if leaf not in hidden])
    kept = {leaf: True for leaf in leaves}
    hierarchies = []
    for name, rows in side.hierarchies:
        left = _cut_rows(rows, kept)
        if len(left) > 0:
            hierarchies.append((name, left))
    return Side(side.name, leaves, tuple(hierarchies))


class Cutting:
    """Moves and spans of formulas in a cut outline."""

    def __init__(self, outline):
        self.cut_layout = outline

    def moves_for(self, moves):
        """The moves, or None if one names what is gone."""
        if not all([move_suits(self.cut_layout.side(name), move) for name, move in moves]):
            return None
        return moves

    def span_for(self, name, span):
        """The span without members that are gone, or None if nothing is left, or its hierarchy is gone."""
        side = self.cut_layout.side(name)
        if span[0] == "members":
            left = tuple([member for member in span[1] if member in side])
            return ("members", left) if len(left) > 0 else None
        return span if span_suits(side, span) else None


def _cut_area(outline, area):
    """The area without members that are gone."""
    found = []
    for side, entry in zip(outline.sides, area):
        found.append(None if entry is None else tuple([name for name in entry if name in side]))
    return tuple(found)


def cut_rules(outline, rules):
    """What is left of rules in a cut outline."""
    cutting = Cutting(outline)
    found = []
    for rule in rules:
        area = _cut_area(outline, rule.area)
        if () not in area:
            found.append(Rule(area, rebuilt(rule.formula, cutting), rule.rank))
    return tuple(found)
