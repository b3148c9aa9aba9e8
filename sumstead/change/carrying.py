"""What an edit makes of an outline, of rules and of cells, and where cells come to."""

from sumstead.base.reckoning import added, multiplied
from sumstead.base.worths import ONE
from sumstead.change.drafts import draft_behind, shares_behind
from sumstead.change.words import word_against
from sumstead.errors import InvalidOutline, Refused
from sumstead.outline.outlines import Outline, Side
from sumstead.plain.moves import put
from sumstead.plain.nodes import rebuilt
from sumstead.plain.rules import Rule


def _drafted(outline, edit):
    """The outline behind an edit, or None if it is beyond the bounds of outlines."""
    leaves, hierarchies = draft_behind(outline.side(edit[1]), edit)
    sides = list(outline.sides)
    try:
        sides[outline.index(edit[1])] = Side(edit[1], leaves, hierarchies)
        return Outline(tuple(sides))
    except InvalidOutline:
        return None


def outline_behind(outline, index, edit):
    """The outline behind an edit, the one with an index in its script."""
    word = word_against(outline, edit)
    if word is not None:
        raise Refused(("edit", index, word))
    drafted = _drafted(outline, edit)
    if drafted is None:
        raise Refused(("edit", index, "great"))
    return drafted


class Renaming:
    """Another name of one member of a side, in moves and spans."""

    def __init__(self, side, old, new):
        self.changed_side = side
        self.old_name = old
        self.new_name = new

    def name_for(self, name):
        """The name that a member has then."""
        return self.new_name if name == self.old_name else name

    def _renamed_move(self, side, move):
        if side == self.changed_side and move[0] == "to":
            return ("to", self.name_for(move[1]))
        return move

    def moves_for(self, moves):
        """The moves with the new name."""
        return tuple([(side, self._renamed_move(side, move)) for side, move in moves])

    def span_for(self, side, span):
        """The span with the new name."""
        if side == self.changed_side and span[0] == "members":
            return ("members", tuple([self.name_for(name) for name in span[1]]))
        return span


def rules_behind(outline, rules, edit):
    """The rules behind an edit of an outline, whether they suit then or not."""
    if edit[0] != "rename":
        return rules
    renaming = Renaming(edit[1], edit[2], edit[3])
    at = outline.index(edit[1])
    found = []
    for rule in rules:
        area = rule.area
        if area[at] is not None:
            area = put(area, at, tuple(sorted([renaming.name_for(name) for name in area[at]])))
        found.append(Rule(area, rebuilt(rule.formula, renaming), rule.rank))
    return tuple(found)


def cells_behind(outline, cells, edit):
    """The cells behind an edit of an outline, whatever worths they have."""
    shares = shares_behind(edit)
    at = outline.index(edit[1])
    found = {}
    for place in cells:
        for leaf, share in shares.get(place[at], ((place[at], ONE),)):
            goal = put(place, at, leaf)
            found[goal] = added(found.get(goal, None), multiplied(share, cells[place]))
    return found


class SideTable:
    """For each leaf of a side, the dict from the leaves to which its cells come to their shares."""

    def __init__(self, side):
        self.ways = {leaf: {leaf: ONE} for leaf in side.leaves}

    def note(self, shares):
        """Makes the shares those behind a further edit, which changes some leaves."""
        self.ways = {leaf: _led_on(self.ways[leaf], shares) for leaf in self.ways}

    def pair_count(self):
        """How many pairs of a leaf and a leaf to which its cells come there are."""
        return sum([len(self.ways[leaf]) for leaf in self.ways])


def _led_on(ways, shares):
    found = {}
    for leaf in ways:
        for goal, share in shares.get(leaf, ((leaf, ONE),)):
            found[goal] = added(found.get(goal, None), multiplied(ways[leaf], share))
    return found


def row_of(tables, leaf_place):
    """The ascending tuple of the pairs (new leaf place, share) of a leaf place, by the tables of all sides."""
    found = [((), ONE)]
    for table, leaf in zip(tables, leaf_place):
        ways = table.ways[leaf]
        found = [(begun + (goal,), multiplied(share, ways[goal])) for begun, share in found for goal in sorted(ways)]
    return tuple(found)
