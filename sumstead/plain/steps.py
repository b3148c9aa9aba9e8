"""The reading of one place: of a formula, or of the children of an opened place.

A reading never calls another one. Where it needs a place that is not told yet, it stops and says so,
and it goes on from there when the place is told. So chains of places may be as long as they are.
"""

from sumstead.plain.moves import moved, put, span_members


class OpenedReading:
    """The reading of a place that is told by the children of its group at one side."""

    def __init__(self, outline, place, index, ways):
        self.spot = place
        self.asks = {}
        self._index = index
        self._children = outline.sides[index].children(place[index])
        self._got = []
        self._ways = ways

    def go_on(self, known):
        """Reads as far as the known places lead; the place that is needed, or None at the end."""
        while len(self._got) < len(self._children):
            child, weight = self._children[len(self._got)]
            asked = put(self.spot, self._index, child)
            self.asks[asked] = True
            if asked not in known:
                return asked
            self._got.append((weight, known[asked]))
        return None

    def outcome(self):
        """What the place is told."""
        return self._ways.opened(self.spot, self._got)


class FormulaReading:
    """The reading of a formula, or a test, at a place.

    The tasks that are left are nodes, and what is to be done with the results of nodes.
    """

    def __init__(self, outline, place, node, ways):
        self.spot = place
        self.asks = {}
        self.layout = outline
        self.ways = ways
        self.asked = place
        self.tasks = [node]
        self.results = []

    def go_on(self, known):
        """Reads as far as the known places lead; the place that is needed, or None at the end."""
        while len(self.tasks) > 0:
            task = self.tasks.pop()
            if task[0] == "at":
                asked = moved(self.layout, self.asked, task[1])
                if asked is not None and asked not in known:
                    self.asks[asked] = True
                    self.tasks.append(task)
                    return asked
                self._put_told(asked, known)
            else:
                step = _STEPS[task[0]]
                step(self, task)
        return None

    def _put_told(self, asked, known):
        if asked is None:
            self.results.append(self.ways.nothing())
        else:
            self.asks[asked] = True
            self.results.append(known[asked])

    def outcome(self):
        """What the formula, or the test, tells."""
        return self.results[-1]


def _put_worth(reading, task):
    reading.results.append(reading.ways.of_worth(task[1]))


def _put_nothing(reading, task):
    reading.results.append(reading.ways.nothing())


def _operate(reading, task):
    reading.tasks.extend([("reckon", task[0]), task[2], task[1]])


def _reckon(reading, task):
    other = reading.results.pop()
    one = reading.results.pop()
    reading.results.append(reading.ways.reckon(reading.spot, task[1], one, other))


def _compare(reading, task):
    reading.tasks.extend([("hold", task[0]), task[2], task[1]])


def _hold(reading, task):
    other = reading.results.pop()
    one = reading.results.pop()
    reading.results.append(reading.ways.holds(task[1], one, other))


def _there(reading, task):
    reading.tasks.extend([("be",), task[1]])


def _be(reading, task):
    reading.results.append(reading.ways.is_there(reading.results.pop()))


def _not(reading, task):
    reading.tasks.extend([("flip",), task[1]])


def _flip(reading, task):
    reading.results.append(not reading.results.pop())


def _both(reading, task):
    reading.tasks.extend([("go", True, task[2]), task[1]])


def _either(reading, task):
    reading.tasks.extend([("go", False, task[2]), task[1]])


def _go(reading, task):
    # The first test alone tells, unless its truth is the one that leaves all to the second test.
    if reading.results[-1] == task[1]:
        reading.results.pop()
        reading.tasks.append(task[2])


def _if(reading, task):
    reading.tasks.extend([("choose", task[2], task[3]), task[1]])


def _choose(reading, task):
    if reading.results.pop():
        reading.tasks.append(task[1])
    else:
        reading.tasks.append(task[2])


def _fold(reading, task):
    word, name, span, node = task
    index = reading.layout.index(name)
    members = span_members(reading.layout.sides[index], reading.asked[index], span)
    if word == "last":
        members = members[::-1]
    _go_over(reading, (word, index, members, node, reading.asked), 0, reading.ways.nothing())


def _go_over(reading, fold, count, total):
    """Reads the formula of a fold for its next member, or ends the fold without one."""
    word, index, members, node, outer = fold
    if count == len(members):
        reading.asked = outer
        reading.results.append(total)
    else:
        reading.asked = put(outer, index, members[count])
        reading.tasks.extend([("next", fold, count, total), node])


def _next(reading, task):
    _, fold, count, total = task
    told = reading.results.pop()
    if fold[0] == "sum":
        _go_over(reading, fold, count + 1, reading.ways.reckon(reading.spot, "plus", total, told))
    elif reading.ways.is_there(told):
        reading.asked = fold[4]
        reading.results.append(told)
    else:
        _go_over(reading, fold, count + 1, total)


_STEPS = {
    "worth": _put_worth, "nothing": _put_nothing,
    "plus": _operate, "minus": _operate, "times": _operate, "over": _operate, "reckon": _reckon,
    "below": _compare, "same": _compare, "hold": _hold,
    "there": _there, "be": _be, "not": _not, "flip": _flip,
    "both": _both, "either": _either, "go": _go, "if": _if, "choose": _choose,
    "sum": _fold, "first": _fold, "last": _fold, "next": _next,
}
