"""A recognizer by Earley's way, for the grammars of the document, written down as they stand there.

It tells the first token with which no text goes on, without any of the program's own parser. The tokens
are cut by a pattern. Brackets are counted, and numbers are looked at, as the document tells.
"""

import re

TOKEN = re.compile(r"[a-z][a-z0-9]*|-?[0-9]+(?:/[0-9]+)?|[^ ]", re.DOTALL)

FORMULAS = """
F = M Fs
Fs = | + M Fs | - M Fs
M = P Ms
Ms = | * P Ms | / P Ms
P = NUMBER | nothing | [ ] | [ move moves ] | ( F ) | if ( T , F , F ) | fold ( NAME , span , F )
fold = sum | first | last
moves = | , move moves
move = NAME to NAME | NAME step INTEGER | NAME parent NAME
span = of NAME names | children NAME | leaves | window INTEGER | sofar NAME
names = | NAME names
T = F < F | F = F | there ( F ) | not ( T ) | both ( T , T ) | either ( T , T )
"""

RULES = FORMULAS + """
R = INTEGER ( ) = F | INTEGER ( entry entries ) = F
entries = | , entry entries
entry = NAME : NAME names
"""

OUTLINES = """
O = S | S NEWLINE O
S = side NAME NEWLINE leaves NAME names trees
names = | NAME names
trees = | NEWLINE tree NAME rows trees
rows = NEWLINE row | NEWLINE row rows
row = NAME = child children
children = | , child children
child = NAME | NAME * NUMBER
"""

CELLS = """
C = | lines
lines = line | line NEWLINE lines
line = NAME names : NUMBER
names = | NAME names
"""

QUESTIONS = FORMULAS + """
Q = all | leaves | members ( ) | members ( NAME listed ) | children ( NAME ) | under ( NAME )
Q = level ( NAME , INTEGER ) | union ( Q , Q ) | less ( Q , Q ) | meet ( Q , Q ) | filter ( Q , T )
Q = order ( Q , F , up ) | order ( Q , F , down ) | first ( Q , INTEGER ) | best ( Q , INTEGER , F )
listed = | , NAME listed
"""


def table(text):
    """The rows of a grammar: for each left side the tuple of its right sides."""
    found = {}
    for line in text.strip().split("\n"):
        if line:
            left, right = line.split(" =", 1)
            # A sign | stands for a choice; a sign = is a token, but for the first one.
            for row in right.split("|"):
                found.setdefault(left, []).append(tuple(row.split()))
    return found


class Grammar:
    def __init__(self, text, start):
        self.rows = table(text)
        self.start = start
        self.empty = self.find_empty()

    def find_empty(self):
        """The left sides that can be nothing at all."""
        empty = set()
        while True:
            more = {left for left, rows in self.rows.items()
                    if any(all(part in empty for part in row) for row in rows)} - empty
            if not more:
                return empty
            empty |= more

    def matches(self, part, token):
        if part == "NAME":
            return re.fullmatch(r"[a-z][a-z0-9]{0,7}", token) is not None
        if part == "NUMBER":
            return re.fullmatch(r"-?[0-9]+(/[0-9]+)?", token) is not None
        if part == "INTEGER":
            return re.fullmatch(r"-?[0-9]+", token) is not None
        return part == ("NEWLINE" if token == "\n" else token)

    def closed(self, items, sets):
        """The set of items with all that are foretold, or completed, by them."""
        left = list(items)
        found = set(left)
        while left:
            head, row, at, begin = left.pop()
            fresh = []
            if at == len(row):
                ahead = sets[begin] if begin < len(sets) else found
                fresh = [(h, r, a + 1, b) for h, r, a, b in list(ahead) if a < len(r) and r[a] == head]
            elif row[at] in self.rows:
                fresh = [(row[at], one, 0, len(sets)) for one in self.rows[row[at]]]
                if row[at] in self.empty:
                    fresh.append((head, row, at + 1, begin))
            for item in fresh:
                if item not in found:
                    found.add(item)
                    left.append(item)
        return found

    def fault(self, text):
        """The index at which a text is wrong, its length if it ends too early, or None."""
        sets = []
        sets.append(self.closed([("START", (self.start,), 0, 0)], sets))
        opened = 0
        for match in TOKEN.finditer(text):
            token = match.group()
            moved = [(head, row, at + 1, begin) for head, row, at, begin in sets[-1]
                     if at < len(row) and row[at] not in self.rows and self.matches(row[at], token)]
            if not moved:
                return match.start()
            opened += (token in "([") - (token in ")]")
            if token in "([" and opened > 64:
                return match.start()
            if token[-1] in "0123456789" and token[0] in "-0123456789":
                spot = number_fault(token)
                if spot is not None:
                    return match.start() + spot
            sets.append(self.closed(moved, sets))
        if ("START", (self.start,), 1, 0) in sets[-1]:
            return None
        return len(text)


def number_fault(token):
    """Where a number is wrong, or None."""
    at = 0
    for part, begin in ((token.split("/")[0], 0),) + (((token.split("/")[1], token.index("/") + 1),)
                                                      if "/" in token else ()):
        digits = part.lstrip("-")
        at = begin + len(part) - len(digits)
        if digits[0] == "0":
            if part[0] == "-" or begin > 0:
                return at
            if len(digits) > 1:
                return at + 1
        if len(digits) > 60:
            return at + 60
    return None
