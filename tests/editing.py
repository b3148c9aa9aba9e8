"""A second way to edit outlines, written as the document tells it over trees of lists; and drawn edits.

It knows nothing of the package but the properties of its objects.
"""

from fractions import Fraction

from sumstead.outline.outlines import Outline, Side
from sumstead.plain.cubes import Cube
from sumstead.plain.rules import Rule

from plainly import fraction, pair


class Word(Exception):
    def __init__(self, word):
        self.word = word


def depth_of(rows, top):
    table = dict(rows)
    return max((1 + depth_of(rows, child) for child, _ in table[top]), default=0) if top in table else 0


def is_small(weight):
    return weight != 0 and abs(weight.numerator) <= 99 and weight.denominator <= 10


class Draft:
    """A side as lists: leaves, and for each hierarchy its rows in order, with weights as fractions."""

    def __init__(self, side):
        self.name = side.name
        self.leaves = list(side.leaves)
        self.trees = {name: [[group, [[child, fraction(weight)] for child, weight in children]]
                             for group, children in rows] for name, rows in side.hierarchies}

    def groups(self, tree):
        return [row[0] for row in self.trees[tree]]

    def members(self):
        return self.leaves + [group for tree in self.trees for group in self.groups(tree)]

    def tops(self):
        return [rows[0][0] for rows in self.trees.values()]

    def row_above(self, tree, member):
        for row in self.trees[tree]:
            if member in [child for child, _ in row[1]]:
                return row
        return None

    def below(self, tree, member):
        found = [member]
        for row in self.trees[tree]:
            if row[0] == member:
                for child, _ in row[1]:
                    found.extend(self.below(tree, child))
        return found

    def in_order(self, tree):
        table = {row[0]: row for row in self.trees[tree]}

        def walk(group):
            rows = [table[group]]
            for child, _ in table[group][1]:
                if child in table:
                    rows.extend(walk(child))
            return rows
        self.trees[tree] = walk(self.trees[tree][0][0])

    def is_within_bounds(self):
        if len(self.leaves) > 30 or any(len(rows) > 20 for rows in self.trees.values()):
            return False
        for rows in self.trees.values():
            if depth_of(rows, rows[0][0]) > 6 or not all(is_small(weight) for row in rows for _, weight in row[1]):
                return False
        return True

    def as_side(self):
        trees = [(name, tuple((group, tuple((child, pair(weight)) for child, weight in children))
                              for group, children in rows)) for name, rows in self.trees.items()]
        return Side(self.name, tuple(self.leaves), tuple(trees))


def need(condition, word):
    if not condition:
        raise Word(word)


class Edited:
    """An outline as drafts, rules and cells; an edit changes them, or raises Word, and then all is void."""

    def __init__(self, outline, rules=(), cells=None):
        self.drafts = {side.name: Draft(side) for side in outline.sides}
        self.rules = list(rules)
        self.cells = {place: fraction(worth) for place, worth in (cells or {}).items()}

    def outline(self):
        return Outline(tuple(draft.as_side() for draft in self.drafts.values()))

    def cube(self):
        return Cube(self.outline(), tuple(self.rules), {place: pair(worth) for place, worth in self.cells.items()})

    def do(self, edit):
        need(edit[1] in self.drafts, "unknown")
        self.draft = self.drafts[edit[1]]
        self.at = list(self.drafts).index(edit[1])
        getattr(self, "do_" + edit[0])(*edit[2:])
        many = 1
        for draft in self.drafts.values():
            many *= len(draft.members())
        need(many <= 20000 and self.draft.is_within_bounds(), "great")

    def carry(self, table):
        """Sends each cell with a leaf of the table to the leaves it tells, with their shares."""
        found = {}
        for place, worth in self.cells.items():
            for leaf, share in table.get(place[self.at], [(place[self.at], Fraction(1))]):
                goal = place[:self.at] + (leaf,) + place[self.at + 1:]
                found[goal] = found.get(goal, 0) + worth * share
        self.cells = found

    def new_name(self, name, gone=()):
        need(name not in self.draft.members() or name in gone, "taken")

    def do_add(self, name):
        self.new_name(name)
        self.draft.leaves.append(name)

    def do_drop(self, leaf):
        need(leaf in self.draft.leaves, "unknown")
        self.draft.leaves.remove(leaf)
        for tree in self.draft.trees:
            row = self.draft.row_above(tree, leaf)
            if row is not None:
                row[1] = [child for child in row[1] if child[0] != leaf]
                need(row[1], "empty")
        need(self.draft.leaves, "empty")
        self.carry({leaf: []})

    def do_rename(self, member, name):
        draft = self.draft
        need(member in draft.members(), "unknown")
        self.new_name(name, (member,))
        if member in draft.leaves:
            self.carry({member: [(name, Fraction(1))]})
        draft.leaves = [name if leaf == member else leaf for leaf in draft.leaves]
        for rows in draft.trees.values():
            for row in rows:
                row[0] = name if row[0] == member else row[0]
                for child in row[1]:
                    child[0] = name if child[0] == member else child[0]
        self.rules = [self.renamed(rule, member, name) for rule in self.rules]

    def renamed(self, rule, old, new):
        side = self.draft.name

        def walk(node, inside):
            if isinstance(node, tuple) and len(node) == 2 and node[0] == side and isinstance(node[1], tuple):
                return (side, ("to", new)) if node[1] == ("to", old) else node
            if isinstance(node, tuple) and len(node) == 4 and node[0] in ("sum", "first", "last"):
                span = node[2]
                if node[1] == side and span[0] == "members":
                    span = ("members", tuple(new if name == old else name for name in span[1]))
                return (node[0], node[1], span, walk(node[3], inside))
            return tuple(walk(part, inside) for part in node) if isinstance(node, tuple) else node
        area = tuple(entry if entry is None or at != self.at else tuple(sorted(new if name == old else name for name in entry))
                     for at, entry in enumerate(rule.area))
        return Rule(area, walk(rule.formula, None), rule.rank)

    def do_move(self, tree, member, group, index, weight):
        draft = self.draft
        need(tree in draft.trees and group in draft.groups(tree), "unknown")
        need(member in draft.leaves or member in draft.groups(tree)[1:], "unknown")
        need(group not in draft.below(tree, member), "ring")
        row = draft.row_above(tree, member)
        if row is not None:
            row[1] = [child for child in row[1] if child[0] != member]
            need(row[1] or row[0] == group, "empty")
        for row in draft.trees[tree]:
            if row[0] == group:
                row[1].insert(index, [member, fraction(weight)])
        draft.in_order(tree)

    def do_group(self, tree, members, name):
        draft = self.draft
        need(tree in draft.trees, "unknown")
        need(all(member in draft.members() and member not in draft.tops() for member in members), "unknown")
        self.new_name(name)
        row = draft.row_above(tree, members[0])
        need(row is not None, "apart")
        names = [child for child, _ in row[1]]
        begin = names.index(members[0])
        need(tuple(names[begin:begin + len(members)]) == members, "apart")
        inner = row[1][begin:begin + len(members)]
        row[1][begin:begin + len(members)] = [[name, Fraction(1)]]
        draft.trees[tree].append([name, inner])
        draft.in_order(tree)

    def do_ungroup(self, group):
        draft = self.draft
        trees = [tree for tree in draft.trees if group in draft.groups(tree)[1:]]
        need(trees, "unknown")
        row = draft.row_above(trees[0], group)
        inner = [one for one in draft.trees[trees[0]] if one[0] == group][0]
        begin = [child for child, _ in row[1]].index(group)
        weight = row[1][begin][1]
        row[1][begin:begin + 1] = [[child, weight * own] for child, own in inner[1]]
        draft.trees[trees[0]].remove(inner)
        draft.in_order(trees[0])

    def do_split(self, leaf, parts):
        need(leaf in self.draft.leaves, "unknown")
        for name, _ in parts:
            self.new_name(name, (leaf,))
        at = self.draft.leaves.index(leaf)
        self.draft.leaves[at:at + 1] = [name for name, _ in parts]
        for tree in self.draft.trees:
            row = self.draft.row_above(tree, leaf)
            if row is not None:
                at = [child for child, _ in row[1]].index(leaf)
                row[1][at:at + 1] = [[name, row[1][at][1]] for name, _ in parts]
        self.carry({leaf: [(name, fraction(share)) for name, share in parts]})

    def do_join(self, leaves, name):
        draft = self.draft
        need(all(leaf in draft.leaves for leaf in leaves), "unknown")
        self.new_name(name, leaves)
        for tree in draft.trees:
            rows = [draft.row_above(tree, leaf) for leaf in leaves]
            if rows == [None] * len(leaves):
                continue
            need(all(row is rows[0] for row in rows), "apart")
            need(len({weight for child, weight in rows[0][1] if child in leaves}) == 1, "apart")
            self.join_in(rows[0][1], leaves, name)
        seats = [[leaf, None] for leaf in draft.leaves]
        self.join_in(seats, leaves, name)
        draft.leaves = [leaf for leaf, _ in seats]
        self.carry({leaf: [(name, Fraction(1))] for leaf in leaves})

    def join_in(self, row, leaves, name):
        places = [at for at, (child, _) in enumerate(row) if child in leaves]
        row[places[0]] = [name, row[places[0]][1]]
        for at in places[:0:-1]:
            del row[at]

    def do_weight(self, tree, member, weight):
        need(tree in self.draft.trees and self.draft.row_above(tree, member) is not None, "unknown")
        for child in self.draft.row_above(tree, member)[1]:
            if child[0] == member:
                child[1] = fraction(weight)


def behind(outline, script):
    """The outline behind a script, or the tuple of the refusal."""
    edited = Edited(outline)
    for index, edit in enumerate(script):
        try:
            edited.do(edit)
        except Word as refusal:
            return ("edit", index, refusal.word)
    return edited.outline()


def cube_behind(cube, script):
    """The cube behind a script; a tuple of the refusal; or "cells" or "many" for cells that are none, or too many."""
    edited = Edited(cube.outline, cube.rules, cube.cells)
    for index, edit in enumerate(script):
        try:
            edited.do(edit)
        except Word as refusal:
            return ("edit", index, refusal.word)
        outline = edited.outline()
        for number, rule in enumerate(edited.rules):
            if not rule.suits(outline):
                return ("rule", index, number)
        if len(edited.cells) > 300:
            return "many"
        for worth in edited.cells.values():
            if abs(worth.numerator) >= 10 ** 18 or worth.denominator > 1000:
                return "cells"
    return edited.cube()


SHARES = (((1, 2), (1, 2)), ((1, 3), (2, 3)), ((3, 1), (-2, 1)), ((1, 2), (-1, 2), (1, 1)), ((5, 2), (-1, 1), (-1, 2)))


def a_name(chance, outline, side):
    """A name that is new, mostly."""
    if chance.random.random() < 0.12:
        return chance.one_of(side.members)
    return chance.one_of("abcdefgh") + str(chance.random.randint(0, 99))


def a_run(chance, side, hierarchy):
    """Members that stand one behind the other among the children of a group, mostly."""
    rows = [row for name, rows in side.hierarchies if name == hierarchy for row in rows]
    children = [child for child, _ in chance.one_of(rows)[1]]
    begin = chance.random.randrange(len(children))
    run = children[begin:begin + chance.random.randint(1, 3)]
    if chance.random.random() < 0.15:
        run = chance.random.sample(side.members, min(len(side), 2))
    return tuple(run)


def an_edit(chance, outline):
    """A drawn edit, which can be made for an outline mostly."""
    side = chance.one_of(outline.sides)
    weight = chance.weight()
    words = ["add", "drop", "rename", "split", "join"]
    if side.names:
        words += ["move", "group", "ungroup", "weight"] * 2
    word = chance.one_of(words)
    member = chance.one_of(side.members)
    leaf = chance.one_of(side.leaves) if chance.random.random() < 0.9 else member
    name = a_name(chance, outline, side)
    if word == "add":
        return (word, side.name, name)
    if word == "drop":
        return (word, side.name, leaf)
    if word == "rename":
        return (word, side.name, member, chance.one_of((name, name, member)))
    if word == "split":
        shares = chance.one_of(SHARES)
        names = chance.random.sample([name, leaf, "k1", "k2", "k3"], len(shares))
        return (word, side.name, leaf, tuple(zip(names, shares))) if len(set(names)) == len(names) else ("add", side.name, name)
    if word == "join":
        if side.names and chance.random.random() < 0.6:
            leaves = tuple(one for one in a_run(chance, side, chance.one_of(side.names)) if side.is_leaf(one))
        else:
            leaves = tuple(chance.random.sample(side.leaves, min(2, len(side.leaves))))
        if len(leaves) < 2:
            return ("add", side.name, name)
        return (word, side.name, leaves, chance.one_of((name, leaves[0])))
    hierarchy = chance.one_of(side.names)
    if word == "move":
        groups = [row[0] for name, rows in side.hierarchies if name == hierarchy for row in rows]
        group = chance.one_of(groups) if chance.random.random() < 0.9 else member
        return (word, side.name, hierarchy, member, group, chance.random.randint(0, 4), weight)
    if word == "group":
        return (word, side.name, hierarchy, a_run(chance, side, hierarchy), name)
    if word == "ungroup":
        groups = [one for one in side.members if not side.is_leaf(one)]
        return (word, side.name, chance.one_of(groups))
    return (word, side.name, hierarchy, member, weight)


def a_script(chance, outline, most=6):
    """A drawn script, each edit drawn for the outline behind those ahead, as long as these can be made."""
    script = ()
    for _ in range(chance.random.randint(0, most)):
        now = behind(outline, script)
        if isinstance(now, tuple):
            break
        last = script[-1] if script else ("none",)
        if last[0] == "split" and chance.random.random() < 0.5:
            parts = tuple(name for name, _ in last[3])[:2]
            script += (("join", last[1], parts, chance.one_of((parts[0], "j9"))),)
        else:
            script += (an_edit(chance, now),)
    return script
