"""Random outlines, formulas, rules, cubes and questions, from a seed."""

import random

from sumstead.outline.outlines import Outline, Side
from sumstead.plain.cubes import Cube
from sumstead.plain.formulas import is_formula, is_test
from sumstead.plain.rules import Rule


class Chance:
    def __init__(self, seed):
        self.random = random.Random(seed)

    def one_of(self, values):
        return self.random.choice(list(values))

    def weight(self):
        while True:
            top, bottom = self.random.randint(-3, 3), self.random.randint(1, 3)
            if top and (bottom == 1 or top % bottom):
                return (top, bottom) if self.random.random() < 0.4 else (1, 1)

    def tree(self, leaves, letter):
        left = self.random.sample(leaves, self.random.randint(1, len(leaves)))
        inner = self.random.randint(0, min(2, len(left) - 1))
        groups = [f"{letter}{n}" for n in range(inner + 1)]
        children = {group: [] for group in groups}
        for at, group in enumerate(groups[1:], 1):
            children[groups[self.random.randrange(at)]].append((group, self.weight()))
        for at, leaf in enumerate(left):
            group = groups[at] if at < len(groups) else self.one_of(groups)
            children[group].append((leaf, self.weight()))
        return tuple((group, tuple(children[group])) for group in groups)

    def side(self, name):
        leaves = tuple(f"{name}{n}" for n in range(self.random.randint(1, 4)))
        trees = [(f"{name}h{n}", self.tree(leaves, f"{name}g{n}")) for n in range(self.random.randint(0, 2))]
        return Side(name, leaves, tuple(trees))

    def outline(self):
        return Outline(tuple(self.side(name) for name in ("x", "y", "z")[:self.random.randint(1, 3)]))

    def worth(self):
        if self.random.random() < 0.25:
            return (0, 1)
        while True:
            top, bottom = self.random.randint(-4, 4), self.random.randint(1, 3)
            if bottom == 1 or top % bottom:
                return (top, bottom)

    def move(self, side):
        ways = [("to", self.one_of(side.members)), ("step", self.one_of((-2, -1, 1, 2)))]
        ways.extend(("parent", hierarchy) for hierarchy in side.names)
        return self.one_of(ways)

    def moves(self, outline):
        sides = [side for side in outline.sides if self.random.random() < 0.6]
        return tuple(sorted((side.name, self.move(side)) for side in sides))

    def span(self, side):
        many = self.random.randint(1, min(3, len(side)))
        ways = [("members", tuple(self.random.sample(side.members, many))), ("leaves",),
                ("window", self.random.randint(1, 3))]
        for hierarchy in side.names:
            ways.extend([("children", hierarchy), ("sofar", hierarchy)])
        return self.one_of(ways)

    def _end(self, outline):
        chance = self.random.random()
        if chance < 0.65:
            return ("at", self.moves(outline))
        return ("worth", self.worth()) if chance < 0.9 else ("nothing",)

    def _formula(self, outline, depth, linear):
        chance = self.random.random()
        if depth == 0 or chance < 0.25:
            return self._end(outline)
        if linear:
            return self._linear(outline, depth)
        if chance < 0.65:
            word = self.one_of(("plus", "minus", "times", "over"))
            return (word, self._formula(outline, depth - 1, False), self._formula(outline, depth - 1, False))
        if chance < 0.8:
            return ("if", self._test(outline, depth - 1), self._formula(outline, depth - 1, False),
                    self._formula(outline, depth - 1, False))
        side = self.one_of(outline.sides)
        word = self.one_of(("sum", "first", "last"))
        return (word, side.name, self.span(side), self._formula(outline, depth - 1, False))

    def _linear(self, outline, depth):
        inner = self._formula(outline, depth - 1, True)
        word = self.one_of(("plus", "minus", "times", "timed", "over", "sum"))
        if word in ("plus", "minus"):
            return (word, inner, self._formula(outline, depth - 1, True))
        if word == "timed":
            return ("times", inner, ("worth", self.worth()))
        if word == "times":
            return ("times", ("worth", self.worth()), inner)
        if word == "over":
            return ("over", inner, ("worth", self.one_of(((2, 1), (-1, 3), (3, 2)))))
        side = self.one_of(outline.sides)
        return ("sum", side.name, self.span(side), inner)

    def _test(self, outline, depth):
        chance = self.random.random()
        if depth <= 0 or chance < 0.5:
            word = self.one_of(("below", "same"))
            return (word, self._formula(outline, max(0, depth - 1), False), self._formula(outline, 0, False))
        if chance < 0.65:
            return ("there", self._formula(outline, depth - 1, False))
        if chance < 0.75:
            return ("not", self._test(outline, depth - 1))
        return (self.one_of(("both", "either")), self._test(outline, depth - 1), self._test(outline, depth - 1))

    def formula(self, outline, depth=4, linear=False):
        while True:
            value = self._formula(outline, depth, linear)
            if is_formula(value):
                return value

    def test(self, outline, depth=3):
        while True:
            value = self._test(outline, depth)
            if is_test(value):
                return value

    def area(self, outline):
        entries = []
        for side in outline.sides:
            if self.random.random() < 0.4:
                entries.append(None)
            else:
                many = self.random.randint(1, len(side))
                entries.append(tuple(sorted(self.random.sample(side.members, many))))
        return tuple(entries)

    def rules(self, outline, most=4, linear=False):
        found = []
        for _ in range(self.random.randint(0, most)):
            formula = self.formula(outline, self.random.randint(0, 4), linear)
            found.append(Rule(self.area(outline), formula, self.random.randint(0, 2)))
        return tuple(found)

    def cells(self, outline):
        return {place: self.worth() for place in outline.leaf_places() if self.random.random() < 0.6}

    def cube(self, linear=False):
        outline = self.outline()
        return Cube(outline, self.rules(outline, linear=linear), self.cells(outline))

    def order(self, outline):
        return tuple(self.random.sample(range(len(outline)), len(outline)))

    def question(self, outline, side, depth=3):
        chance = self.random.random()
        if depth == 0 or chance < 0.3:
            ways = [("all",), ("leaves",), ("members", tuple(self.random.sample(side.members, min(3, len(side))))),
                    ("children", self.one_of(side.members)), ("under", self.one_of(side.members))]
            ways.extend(("level", hierarchy, self.random.randint(0, 3)) for hierarchy in side.names)
            return self.one_of(ways)
        inner = self.question(outline, side, depth - 1)
        if chance < 0.55:
            return (self.one_of(("union", "less", "meet")), inner, self.question(outline, side, depth - 1))
        if chance < 0.7:
            return ("filter", inner, self.test(outline, 2))
        if chance < 0.85:
            return ("order", inner, self.formula(outline, 2), self.one_of(("up", "down")))
        if chance < 0.9:
            return ("first", inner, self.random.randint(1, 3))
        return ("best", inner, self.random.randint(1, 3), self.formula(outline, 2))
