"""A second plain reading, written as the document tells it, by recursion over fractions.

It refuses by raising Stop. It knows nothing of the package but the properties of its objects.
"""

from fractions import Fraction


class Stop(Exception):
    def __init__(self, reason):
        self.reason = reason


def fraction(worth):
    return Fraction(worth[0], worth[1])


def pair(number):
    return None if number is None else (number.numerator, number.denominator)


def is_great(number):
    return abs(number.numerator) >= 10 ** 1000 or number.denominator >= 10 ** 1000


class Plain:
    def __init__(self, cube, order=None):
        self.sides = cube.outline.sides
        self.names = cube.outline.names
        self.rules = cube.rules
        self.cells = cube.cells
        self.order = range(len(self.sides)) if order is None else order

    def rule_at(self, place):
        best = None
        for index, rule in enumerate(self.rules):
            if all(entry is None or name in entry for entry, name in zip(rule.area, place)):
                if best is None or rule.rank >= self.rules[best].rank:
                    best = index
        return best

    def answer(self, place):
        try:
            told = self.place(place, ())
        except Stop as stop:
            return ("refused", stop.reason)
        return ("nothing",) if told is None else ("worth", pair(told))

    def needs(self, place):
        asks = []
        try:
            self.read(place, (place,), asks)
        except Stop:
            pass
        return tuple(dict.fromkeys(asks))

    def place(self, place, opened):
        if place in opened:
            ring = list(opened[opened.index(place):])
            least = ring.index(min(ring))
            raise Stop(("ring", tuple(ring[least:] + ring[:least])))
        return self.read(place, opened + (place,), [])

    def ask(self, place, opened, asks):
        asks.append(place)
        return self.place(place, opened)

    def read(self, place, opened, asks):
        index = self.rule_at(place)
        if index is not None:
            return self.formula(self.rules[index].formula, place, place, opened, asks)
        for index in self.order:
            side = self.sides[index]
            if place[index] not in side.leaves:
                total = None
                for child, weight in side.children(place[index]):
                    told = self.ask(place[:index] + (child,) + place[index + 1:], opened, asks)
                    if told is not None:
                        total = (total or 0) + fraction(weight) * told
                if total is not None:
                    total = Fraction(total)
                    if is_great(total):
                        raise Stop(("great", place))
                return total
        return fraction(self.cells[place]) if place in self.cells else None

    def moved(self, asked, moves):
        for name, (word, given) in moves:
            index = self.names.index(name)
            side = self.sides[index]
            member = asked[index]
            if word == "to":
                member = given
            elif word == "parent":
                member = side.parent(member, given)
            elif member in side.leaves and 0 <= side.leaves.index(member) + given < len(side.leaves):
                member = side.leaves[side.leaves.index(member) + given]
            else:
                member = None
            if member is None:
                return None
            asked = asked[:index] + (member,) + asked[index + 1:]
        return asked

    def span(self, side, member, span):
        if span[0] == "members":
            return list(span[1])
        if span[0] == "children":
            return [child for child, _ in side.children(member)] if side.home(member) == span[1] else []
        if span[0] == "leaves":
            return [leaf for leaf, _ in side.under(member)]
        if member not in side.leaves:
            return []
        if span[0] == "window":
            end = side.leaves.index(member) + 1
            return list(side.leaves[:end][-span[1]:])
        group = side.parent(member, span[1])
        if group is None:
            return []
        row = [child for child, _ in side.children(group)]
        return row[:row.index(member) + 1]

    def sized(self, total, place):
        if total is not None and is_great(total):
            raise Stop(("great", place))
        return total

    def operate(self, word, one, other, place):
        if word in ("plus", "minus"):
            if other is not None and word == "minus":
                other = -other
            if one is None or other is None:
                return self.sized(other if one is None else one, place)
            return self.sized(one + other, place)
        if one is None or other is None:
            return None
        if word == "times":
            return self.sized(one * other, place)
        if other == 0:
            raise Stop(("zero", place))
        return self.sized(one / other, place)

    def formula(self, node, place, asked, opened, asks):
        word = node[0]

        def read(part):
            return self.formula(part, place, asked, opened, asks)
        if word == "worth":
            return fraction(node[1])
        if word == "nothing":
            return None
        if word == "at":
            goal = self.moved(asked, node[1])
            return None if goal is None else self.ask(goal, opened, asks)
        if word in ("plus", "minus", "times", "over"):
            one = read(node[1])
            return self.operate(word, one, read(node[2]), place)
        if word == "if":
            return read(node[2]) if self.test(node[1], place, asked, opened, asks) else read(node[3])
        index = self.names.index(node[1])
        members = self.span(self.sides[index], asked[index], node[2])
        total = None
        for member in (members[::-1] if word == "last" else members):
            goal = asked[:index] + (member,) + asked[index + 1:]
            told = self.formula(node[3], place, goal, opened, asks)
            if word != "sum" and told is not None:
                return told
            total = self.operate("plus", total, told, place)
        return total

    def test(self, node, place, asked, opened, asks):
        word = node[0]
        if word in ("below", "same"):
            one = self.formula(node[1], place, asked, opened, asks)
            other = self.formula(node[2], place, asked, opened, asks)
            if one is None or other is None:
                return False
            return one < other if word == "below" else one == other
        if word == "there":
            return self.formula(node[1], place, asked, opened, asks) is not None
        first = self.test(node[1], place, asked, opened, asks)
        if word == "not":
            return not first
        if word == "both":
            return first and self.test(node[2], place, asked, opened, asks)
        return first or self.test(node[2], place, asked, opened, asks)
