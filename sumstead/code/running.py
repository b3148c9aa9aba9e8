"""The runs of a machine: of code at a place, or of the children of an opened place, step by step.

A run never starts another one. A step that needs what another place is told says so; the run then waits,
and goes on when it is told.
"""

from sumstead.plain.moves import moved, put, span_members

class OpenedRun:
    """The run of a place that is told by the children of its group at one side."""

    def __init__(self, outline, place, index, ways):
        self.spot = place
        self.waits = None
        self._index = index
        self._children = outline.sides[index].children(place[index])
        self._got = []
        self._ways = ways

    def is_done(self):
        """Whether all children were told."""
        return len(self._got) == len(self._children)

    def do_step(self):
        """Asks the next child."""
        child, _ = self._children[len(self._got)]
        self.waits = put(self.spot, self._index, child)

    def take(self, told):
        """Takes what the place is told for which the run waits."""
        self._got.append((self._children[len(self._got)][1], told))
        self.waits = None

    def outcome(self):
        """What the place is told."""
        return self._ways.opened(self.spot, self._got)


class OpenFold:
    """A fold that is open: its members, and how far it has come."""

    def __init__(self, word, side_index, members, outer, begin):
        self.word = word
        self.side_index = side_index
        self.members_left = members
        self.outer = outer
        self.begin = begin
        self.result = None


class CodeRun:
    """The run of code at a place."""

    def __init__(self, outline, place, program, ways):
        self.spot = place
        self.waits = None
        self.layout = outline
        self.program = program
        self.ways = ways
        self.asked = place
        self.counter = 0
        self.operands = []
        self.open_folds = []
        self.slots = {}
        self.ended = False

    def is_done(self):
        """Whether the place is told."""
        return self.ended

    def do_step(self):
        """Does one instruction."""
        instruction = self.program[self.counter]
        self.counter = self.counter + 1
        step = _STEPS[instruction[0]]
        step(self, instruction)

    def take(self, told):
        """Takes what the place is told for which the run waits."""
        self.operands.append(told)
        self.waits = None

    def outcome(self):
        """What the place is told."""
        return self.operands[-1]


def _push_given(run, instruction):
    run.operands.append(instruction[1])


def _push_nothing(run, instruction):
    run.operands.append(None)


def _ask(run, instruction):
    asked = moved(run.layout, run.asked, instruction[1])
    if asked is None:
        run.operands.append(None)
    else:
        run.waits = asked


def _reckon(run, instruction):
    other = run.operands.pop()
    one = run.operands.pop()
    run.operands.append(run.ways.reckon(run.spot, instruction[0], one, other))


def _compare(run, instruction):
    other = run.operands.pop()
    one = run.operands.pop()
    run.operands.append(run.ways.holds(instruction[0], one, other))


def _there(run, instruction):
    run.operands.append(run.operands.pop() is not None)


def _not(run, instruction):
    run.operands.append(not run.operands.pop())


def _jump(run, instruction):
    run.counter = instruction[1]


def _unless(run, instruction):
    if not run.operands.pop():
        run.counter = instruction[1]


def _fold(run, instruction):
    _, word, name, span, end = instruction
    index = run.layout.index(name)
    members = list(span_members(run.layout.sides[index], run.asked[index], span))
    if len(members) == 0:
        run.operands.append(None)
        run.counter = end
        return
    # The next member is taken from the end.
    if word != "last":
        members.reverse()
    run.open_folds.append(OpenFold(word, index, members, run.asked, run.counter))
    _ask_next_member(run)


def _ask_next_member(run):
    """Makes the next member of the innermost fold the asked one."""
    fold = run.open_folds[-1]
    run.asked = put(fold.outer, fold.side_index, fold.members_left.pop())


def _next(run, instruction):
    fold = run.open_folds[-1]
    told = run.operands.pop()
    if fold.word == "sum":
        fold.result = run.ways.reckon(run.spot, "plus", fold.result, told)
    else:
        fold.result = told
    found = fold.word != "sum" and told is not None
    if found or len(fold.members_left) == 0:
        run.open_folds.pop()
        run.asked = fold.outer
        run.operands.append(fold.result)
    else:
        run.counter = fold.begin
        _ask_next_member(run)


def _set(run, instruction):
    run.slots[instruction[1]] = run.operands[-1]


def _get(run, instruction):
    run.operands.append(run.slots[instruction[1]])


def _tell(run, instruction):
    run.ended = True


_STEPS = {
    "worth": _push_given, "nothing": _push_nothing, "truth": _push_given, "at": _ask,
    "plus": _reckon, "minus": _reckon, "times": _reckon, "over": _reckon,
    "below": _compare, "same": _compare, "there": _there, "not": _not,
    "jump": _jump, "unless": _unless, "fold": _fold, "next": _next,
    "set": _set, "get": _get, "tell": _tell,
}
