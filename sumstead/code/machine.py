"""A machine that answers by code, step by step."""

from sumstead.base.integers import is_between
from sumstead.code.judge import is_sound
from sumstead.code.making import code_of
from sumstead.code.running import CodeRun, OpenedRun
from sumstead.errors import InvalidCode, InvalidNumber, Refused
from sumstead.outline.outlines import check_place
from sumstead.plain.cubes import check_cube
from sumstead.plain.moves import move_suits, span_suits
from sumstead.plain.reading import turned
from sumstead.plain.ways import WorthWays

_MOST_STEPS = 100000


def _suits(outline, instruction):
    """Whether an outline has all that an instruction names."""
    if instruction[0] == "at":
        return all([name in outline.names and move_suits(outline.side(name), move) for name, move in instruction[1]])
    if instruction[0] == "fold":
        return instruction[2] in outline.names and span_suits(outline.side(instruction[2]), instruction[3])
    return True


def _are_codes(cube, value):
    """Whether the value is a tuple of sound code that suits the outline, one for each rule of the cube."""
    if type(value) is not tuple or len(value) != len(cube.rules):
        return False
    if not all([is_sound(code) for code in value]):
        return False
    return all([_suits(cube.outline, instruction) for code in value for instruction in code])


def _answer_of(told):
    return ("nothing",) if told is None else ("worth", told)


def _told_by(answer):
    """What an answer tells; raises Refused if it is a refusal."""
    if answer[0] == "refused":
        raise Refused(answer[1])
    return None if answer[0] == "nothing" else answer[1]


class Machine:
    """Answers by the code of the rules of a cube, with stacks of its own.

    The runs that were begun wait for one another: each one but the last waits for the place of the next one.
    """

    def __init__(self, cube, codes=None):
        check_cube(cube)
        if codes is None:
            codes = tuple([code_of(rule.formula) for rule in cube.rules])
        elif not _are_codes(cube, codes):
            raise InvalidCode(codes)
        self._cube = cube
        self._cells = cube.cells
        self._codes = codes
        self._steps = 0
        self._ways = WorthWays({})
        self._told_answers = {}
        self._runs = []
        self._spots = {}
        self._goal = None

    @property
    def cube(self):
        """The cube, with the cells as they are now."""
        return self._cube

    @property
    def codes(self):
        """The code of each rule."""
        return self._codes

    @property
    def steps(self):
        """How many steps were done."""
        return self._steps

    def answer(self, place):
        """The answer at a place."""
        check_place(self._cube.outline, place)
        self._drop()
        self._begin(place)
        self._work(None)
        return self._told_answers[place]

    def go_on(self, place, *, most=1000):
        """The answer at a place, or None if it needs more steps than this."""
        check_place(self._cube.outline, place)
        if not is_between(most, 1, _MOST_STEPS):
            raise InvalidNumber(most)
        if self._goal != place:
            self._drop()
            self._begin(place)
        if not self._work(most):
            return None
        return self._told_answers[place]

    def change(self, changes):
        """Gives the cube other cells."""
        changed = self._cube.with_cells(changes)
        self._drop()
        if changed.cells != self._cells:
            self._told_answers = {}
        self._cube = changed
        self._cells = changed.cells

    def _drop(self):
        """Drops what was begun."""
        self._runs = []
        self._spots = {}
        self._goal = None

    def _begin(self, place):
        """Begins to work toward the answer at a place."""
        self._goal = place
        if place not in self._told_answers:
            self._enter(place)

    def _enter(self, place):
        """Begins a run of a place, unless it is a leaf place that is told its cell at once."""
        if place in self._spots:
            ring = [run.spot for run in self._runs[self._spots[place]:]]
            raise Refused(("ring", turned(ring)))
        run = self._run_of(place)
        if run is None:
            self._told_answers[place] = _answer_of(self._cells.get(place, None))
        else:
            self._spots[place] = len(self._runs)
            self._runs.append(run)

    def _run_of(self, place):
        outline = self._cube.outline
        rule_index = self._cube.rule_at(place)
        if rule_index is not None:
            return CodeRun(outline, place, self._codes[rule_index], self._ways)
        for index, side in enumerate(outline.sides):
            if not side.is_leaf(place[index]):
                return OpenedRun(outline, place, index, self._ways)
        return None

    def _work(self, most):
        """Does steps until the goal is told, at most so many if there is a bound; whether it is told."""
        try:
            self._do_steps(most)
        except Refused as refusal:
            # Each place that is open needs the next one, and the last one is refused.
            for spot in self._spots:
                self._told_answers[spot] = ("refused", refusal.reason)
            self._runs = []
        if len(self._runs) > 0:
            return False
        self._drop()
        return True

    def _do_steps(self, most):
        done = 0
        while len(self._runs) > 0 and done != most:
            done += 1
            self._steps = self._steps + 1
            run = self._runs[-1]
            run.do_step()
            if run.waits is not None and run.waits not in self._told_answers:
                self._enter(run.waits)
            self._settle()

    def _settle(self):
        """Hands on what was told, as far as no step is needed."""
        while len(self._runs) > 0:
            run = self._runs[-1]
            if run.waits is not None:
                run.take(_told_by(self._told_answers[run.waits]))
            if not run.is_done():
                return
            self._told_answers[run.spot] = _answer_of(run.outcome())
            del self._spots[run.spot]
            self._runs.pop()

    def __contains__(self, value):
        return value in self._cube.outline and value in self._told_answers

    def __len__(self):
        return len(self._told_answers)

    def __str__(self):
        return f"machine with {len(self._codes)} codes, {len(self._told_answers)} answers"
