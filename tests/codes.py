"""A second judge of code, a second machine, and random code: all written plainly."""

from plainly import Plain, Stop, fraction, is_great, pair

KINDS = {"worth": ("", "w"), "nothing": ("", "w"), "truth": ("", "t"), "at": ("", "w"), "plus": ("ww", "w"),
         "minus": ("ww", "w"), "times": ("ww", "w"), "over": ("ww", "w"), "below": ("ww", "t"), "same": ("ww", "t"),
         "there": ("w", "t"), "not": ("t", "t"), "jump": ("", ""), "unless": ("t", ""), "set": ("w", "w"),
         "get": ("", "w")}


class Wrong(Exception):
    pass


def ways(code):
    """All states (index, operands, folds, slots) that any way comes to; raises Wrong if the code is not sound.

    Each fold is a pair of its index and the number of operands below it.
    """
    seen = set()
    left = [(0, "", (), frozenset())]
    while left:
        state = left.pop()
        if state in seen:
            continue
        seen.add(state)
        index, operands, folds, slots = state
        if index >= len(code):
            raise Wrong("no tell")
        base = folds[-1][1] if folds else 0
        word, *rest = code[index]
        if word == "tell":
            if operands != "w" or folds:
                raise Wrong("tell")
        elif word == "fold":
            if len(folds) == 2:
                raise Wrong("three folds")
            left.append((index + 1, operands, folds + ((index, len(operands)),), slots))
            left.append((rest[3], operands + "w", folds, slots))
        elif word == "next":
            if not folds or code[folds[-1][0]][4] != index + 1 or operands[base:] != "w":
                raise Wrong("next")
            left.append((folds[-1][0] + 1, operands[:-1], folds, slots))
            left.append((index + 1, operands, folds[:-1], slots))
        else:
            pops, pushes = KINDS[word]
            if len(operands) - base < len(pops) or operands[len(operands) - len(pops):] != pops:
                raise Wrong("operands")
            if word == "get" and rest[0] not in slots:
                raise Wrong("slot")
            if word == "set":
                slots = slots | {rest[0]}
            behind = operands[:len(operands) - len(pops)] + pushes
            goals = [index + 1] if word != "jump" else []
            if word in ("jump", "unless"):
                goals.append(rest[0])
            left.extend((goal, behind, folds, slots) for goal in goals)
    at = {}
    for index, operands, folds, slots in seen:
        if at.setdefault(index, (operands, folds)) != (operands, folds):
            raise Wrong("unlike ways")
    return seen


def is_sound(code):
    try:
        ways(code)
    except Wrong:
        return False
    return True


def heights(code):
    found = [None] * len(code)
    for index, operands, _, _ in ways(code):
        found[index] = operands
    return tuple(found)


def slots_at(code, index):
    rows = [slots for at, _, _, slots in ways(code) if at == index]
    return tuple(sorted(frozenset.intersection(*rows)))


class CodeReading(Plain):
    """The plain reading in which each rule tells what its code tells."""

    def __init__(self, cube, codes):
        Plain.__init__(self, cube)
        self.codes = codes

    def read(self, place, opened, asks):
        index = self.rule_at(place)
        if index is None:
            return Plain.read(self, place, opened, asks)
        return self.run(self.codes[index], place, opened, asks)

    def run(self, code, place, opened, asks):
        at, asked, operands, folds, slots = 0, place, [], [], {}
        while True:
            word, *rest = code[at]
            at += 1
            if word == "tell":
                return operands.pop()
            if word in ("worth", "truth"):
                operands.append(fraction(rest[0]) if word == "worth" else rest[0])
            elif word == "nothing":
                operands.append(None)
            elif word == "at":
                goal = self.moved(asked, rest[0])
                operands.append(None if goal is None else self.ask(goal, opened, asks))
            elif word in ("plus", "minus", "times", "over", "below", "same"):
                g, f = operands.pop(), operands.pop()
                if word in ("below", "same"):
                    there = f is not None and g is not None
                    operands.append(there and (f < g if word == "below" else f == g))
                else:
                    operands.append(self.operate(word, f, g, place))
            elif word == "there":
                operands.append(operands.pop() is not None)
            elif word == "not":
                operands.append(not operands.pop())
            elif word == "jump":
                at = rest[0]
            elif word == "unless":
                if not operands.pop():
                    at = rest[0]
            elif word == "set":
                slots[rest[0]] = operands[-1]
            elif word == "get":
                operands.append(slots[rest[0]])
            elif word == "fold":
                side = self.names.index(rest[1])
                members = self.span(self.sides[side], asked[side], rest[2])
                members = members[::-1] if rest[0] == "last" else members
                if not members:
                    operands.append(None)
                    at = rest[3]
                else:
                    folds.append([rest[0], side, members, asked, at, None])
                    asked = asked[:side] + (members[0],) + asked[side + 1:]
            else:
                fold = folds[-1]
                word, side, members, outer, begin, total = fold
                told = operands.pop()
                fold[2] = members[1:]
                fold[5] = self.operate("plus", total, told, place) if word == "sum" else told
                if fold[2] and (word == "sum" or told is None):
                    asked = outer[:side] + (fold[2][0],) + outer[side + 1:]
                    at = begin
                else:
                    folds.pop()
                    asked = outer
                    operands.append(fold[5])


class CodeMaker:
    """Random sound code for an outline. Jumps name labels until all is made."""

    def __init__(self, chance, outline, most=60):
        self.chance = chance
        self.outline = outline
        self.rows = []
        self.labels = 0
        self.slots = set()
        self.folds = 0
        self.most = most

    def flip(self, share):
        return self.chance.random.random() < share

    def label(self):
        self.labels += 1
        return f"label{self.labels}"

    def put(self, *row):
        self.rows.append(row)

    def make(self):
        self.worth(5)
        self.put("tell")
        if self.flip(0.2):
            self.rubbish()
        return self.resolved()

    def resolved(self):
        seats, index = {}, 0
        for row in self.rows:
            if row[0] == "label":
                seats[row[1]] = index
            else:
                index += 1
        found = []
        for row in self.rows:
            if row[0] in ("jump", "unless", "fold"):
                row = row[:-1] + (seats[row[-1]],) if isinstance(row[-1], str) else row
            if row[0] != "label":
                found.append(row)
        return tuple(found)

    def rubbish(self):
        """Instructions to which no way leads."""
        rows = [("plus",), ("get", 7), ("tell",), ("not",), ("next",), ("nothing",), ("truth", True), ("worth", (1, 2)),
                ("at", self.chance.moves(self.outline)), ("over",)]
        for _ in range(self.chance.random.randint(1, 4)):
            self.put(*self.chance.one_of(rows))

    def between(self):
        """Jumps that change nothing."""
        if self.flip(0.9):
            return
        goal = self.label()
        self.put("jump", goal)
        if self.flip(0.5):
            self.rubbish()
        if self.flip(0.4):
            other = self.label()
            self.put("label", goal)
            self.put("jump", other)
            if self.flip(0.5):
                self.rubbish()
            goal = other
        self.put("label", goal)

    def constant(self):
        if self.flip(0.25):
            self.put("nothing")
        else:
            self.put("worth", self.chance.worth())

    def end(self):
        if self.slots and self.flip(0.3):
            self.put("get", self.chance.one_of(sorted(self.slots)))
        elif self.flip(0.5):
            self.put("at", self.chance.moves(self.outline))
        else:
            self.constant()
        if self.flip(0.2):
            slot = self.chance.random.randint(0, 3)
            self.put("set", slot)
            self.slots.add(slot)

    def worth(self, depth):
        self.between()
        chance = self.chance.random.random()
        if depth == 0 or chance < 0.25 or len(self.rows) > self.most:
            self.end()
        elif chance < 0.6:
            self.worth(depth - 1)
            self.worth(depth - 1)
            self.between()
            self.put(self.chance.one_of(("plus", "minus", "times", "over")))
        elif chance < 0.8 or self.folds == 2:
            self.choice(depth, self.worth)
        else:
            self.fold(depth)
        self.between()

    def choice(self, depth, part):
        self.truth(depth - 1)
        other, end = self.label(), self.label()
        self.put("unless", other)
        before = set(self.slots)
        part(depth - 1)
        first = self.slots
        self.slots = set(before)
        self.put("jump", end)
        if self.flip(0.2):
            self.rubbish()
        self.put("label", other)
        part(depth - 1)
        self.slots &= first
        self.put("label", end)

    def truth(self, depth):
        self.between()
        chance = self.chance.random.random()
        if depth <= 0 or chance < 0.35:
            self.put("truth", self.flip(0.5))
        elif chance < 0.55:
            self.worth(depth - 1)
            self.worth(depth - 1)
            self.put(self.chance.one_of(("below", "same")))
        elif chance < 0.7:
            self.worth(depth - 1)
            self.put("there")
        elif chance < 0.8:
            self.truth(depth - 1)
            self.between()
            self.put("not")
        else:
            self.choice(depth, self.truth)
        self.between()

    def fold(self, depth):
        side = self.chance.one_of(self.outline.sides)
        end = self.label()
        self.put("fold", self.chance.one_of(("sum", "first", "last")), side.name, self.chance.span(side), end)
        before = set(self.slots)
        self.folds += 1
        self.worth(depth - 1)
        self.folds -= 1
        self.slots = before
        self.put("next")
        self.put("label", end)


CONSTANTS = ("worth", "nothing", "truth")
OPERATORS = ("plus", "minus", "times", "over", "below", "same", "there", "not")


def goal(row):
    return row[-1] if row[0] in ("jump", "unless", "fold") else None


def is_plain(code, index):
    if any(goal(row) == index for row in code):
        return False
    return index == 0 or code[index - 1][0] != "fold"


def refuses(word, values):
    """Whether an operator of constants refuses."""
    if word in ("plus", "minus", "times", "over"):
        one, other = [None if row[0] == "nothing" else fraction(row[1]) for row in values]
        try:
            Plain.operate(object.__new__(Plain), word, one, other, ())
        except Stop:
            return True
    return False


def is_folded(code):
    """Whether all operators that can be reckoned ahead are, but for those that refuse."""
    told = heights(code)
    for index, row in enumerate(code):
        many = len(KINDS[row[0]][0]) if row[0] in OPERATORS else 0
        if many == 0 or told[index] is None or index < many or not is_plain(code, index):
            continue
        ahead = code[index - many:index]
        if all(one[0] in CONSTANTS for one in ahead) and all(is_plain(code, index - back) for back in range(1, many)):
            if not refuses(row[0], ahead):
                return False
    return True


def is_pruned(code):
    if None in heights(code):
        return False
    for index, row in enumerate(code):
        if row[0] == "unless" and is_plain(code, index) and index > 0 and code[index - 1][0] == "truth":
            return False
        if row == ("jump", index + 1):
            return False
    return True


def is_threaded(code):
    return not any(row[0] in ("jump", "unless") and code[row[1]][0] == "jump" for row in code)


def is_shared(code):
    moves = [row[1] for row in code if row[0] == "at"]
    return len(set(moves)) == len(moves)


BEHIND = {"folded": is_folded, "pruned": is_pruned, "threaded": is_threaded}
