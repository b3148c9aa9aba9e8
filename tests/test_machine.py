import sys
import unittest

from sumstead.code.machine import Machine
from sumstead.code.making import code_of
from sumstead.errors import InvalidCells, InvalidCode, InvalidCube, InvalidNumber, InvalidPlace, TooMany
from sumstead.outline.outlines import Outline, Side
from sumstead.plain.cubes import Cube
from sumstead.plain.rules import Rule

from chance import Chance
from codes import CodeMaker, CodeReading
from examples import FLAT, GROWTH, HERE, LOOP, NOTHING, ONE, RULED, SOME, Checks, nines, number, odd_values, to
from test_chains import ALL as PLACES, LAST, LONG, chain, same, twice

TELL = ("tell",)
RATE = ("feb", "diff")


def told_in_steps(machine, place, most):
    """The answer of calls of go_on, and how many there were."""
    calls = 0
    while True:
        before = machine.steps
        answer = machine.go_on(place, most=most)
        calls += 1
        done = machine.steps - before
        if answer is not None:
            assert done <= most
            return answer, calls
        assert done == most


class Machines(unittest.TestCase, Checks):
    def test_example(self):
        machine = Machine(RULED)
        told = [machine.answer(("feb", "diff")), machine.go_on(("jan", "both"), most=1), ("feb", "diff") in machine,
                str(machine)[:20]]
        self.assertEqual(told, [('worth', (3, 2)), None, True, 'machine with 1 codes'])

    def test_properties(self):
        machine = Machine(RULED)
        self.assertEqual((machine.cube, machine.codes, machine.steps, len(machine)), (RULED, (code_of(GROWTH.formula),), 0, 0))
        self.assertEqual(str(machine), "machine with 1 codes, 0 answers")
        code = (number(7), TELL)
        machine = Machine(RULED, (code,))
        self.assertEqual((machine.codes, machine.answer(RATE)), ((code,), ("worth", (7, 1))))
        self.assertEqual(Machine(SOME).codes, ())
        self.assertEqual(Machine(SOME, ()).answer(("all", "both")), ("worth", (21, 2)))
        self.assert_raises(TypeError, iter, machine)

    def test_steps(self):
        machine = Machine(RULED)
        self.assertEqual((machine.answer(("jan", "a")), machine.steps), (("worth", (4, 1)), 0))
        # at, at, over, tell
        self.assertEqual((machine.answer(RATE), machine.steps), (("worth", (3, 2)), 4))
        self.assertEqual((machine.answer(RATE), machine.steps), (("worth", (3, 2)), 4))
        self.assertEqual((machine.go_on(RATE, most=1), machine.steps), (("worth", (3, 2)), 4))
        # two shops
        self.assertEqual((machine.answer(("jan", "both")), machine.steps), (("worth", (9, 2)), 6))
        kept = len(machine)
        self.assertEqual((machine.answer(("jan", "both")), machine.steps, len(machine)), (("worth", (9, 2)), 6, kept))
        machine = Machine(SOME)
        self.assertEqual((machine.answer(("all", "both")), machine.steps), (("worth", (21, 2)), 9))

    def test_steps_of_folds_and_jumps(self):
        formula = ("sum", "time", ("leaves",), to(("shop", "a")))
        machine = Machine(SOME.with_rules((Rule((("all",), ("b",)), formula),)))
        # fold, three times at and next, tell
        self.assertEqual((machine.answer(("all", "b")), machine.steps), (("worth", (10, 1)), 8))
        empty = ("sum", "time", ("children", "year"), HERE)
        machine = Machine(SOME.with_rules((Rule((("jan",), ("b",)), empty),)))
        self.assertEqual((machine.answer(("jan", "b")), machine.steps), (("nothing",), 2))
        choice = ("if", ("there", NOTHING), number(1), number(2))
        machine = Machine(SOME.with_rules((Rule((("jan",), ("b",)), choice),)))
        # nothing, there, unless, worth, tell
        self.assertEqual((machine.answer(("jan", "b")), machine.steps), (("worth", (2, 1)), 5))
        first = ("first", "time", ("leaves",), to(("shop", "a")))
        machine = Machine(SOME.with_rules((Rule((("all",), ("b",)), first),)))
        self.assertEqual((machine.answer(("all", "b")), machine.steps), (("worth", (4, 1)), 4))

    def test_a_refusal_is_kept(self):
        for cube, place, reason in (
                (RULED.with_cells({("jan", "a"): (0, 1)}), RATE, ("zero", RATE)),
                (LOOP, ("jan", "b"), ("ring", (("jan", "b"), ("jan", "both")))),
                (LOOP, ("all", "both"), ("ring", (("jan", "b"), ("jan", "both"))))):
            machine = Machine(cube)
            self.assertEqual(machine.answer(place), ("refused", reason))
            steps = machine.steps
            self.assertTrue(place in machine)
            self.assertEqual(machine.go_on(place, most=1), ("refused", reason))
            self.assertEqual(machine.steps, steps)
            self.assertEqual(told_in_steps(Machine(cube), place, 1)[0], ("refused", reason))

    def test_just_as_many_steps_as_needed(self):
        for most, calls in ((1, 4), (2, 2), (3, 2), (4, 1), (100000, 1)):
            self.assertEqual(told_in_steps(Machine(RULED), RATE, most), (("worth", (3, 2)), calls))
            self.assertEqual(Machine(RULED).go_on(RATE), ("worth", (3, 2)))

    def test_left_off_half_way(self):
        code = (number(1), number(2), ("plus",), number(3), ("plus",), TELL)
        cube = SOME.with_rules((Rule((None, ("diff",)), number(6)),))
        for drop in (lambda one: one.answer(("jan", "a")), lambda one: one.go_on(("jan", "a")),
                     lambda one: one.go_on(("mar", "diff"), most=1), lambda one: one.answer(("mar", "diff")),
                     lambda one: one.change({}), lambda one: one.change({("jan", "b"): ONE})):
            machine = Machine(cube, (code,))
            self.assertIsNone(machine.go_on(RATE, most=4))
            drop(machine)
            self.assertIsNone(machine.go_on(RATE, most=4))
            self.assertIsNone(machine.go_on(RATE, most=1))
            self.assertEqual(machine.go_on(RATE, most=1), ("worth", (6, 1)))
        machine = Machine(cube, (code,))
        self.assertIsNone(machine.go_on(RATE, most=4))
        self.assertEqual(machine.answer(RATE), ("worth", (6, 1)))
        self.assertEqual(machine.steps, 10)

    def test_errors_drop_nothing(self):
        code = (number(1), number(2), ("plus",), number(3), ("plus",), TELL)
        machine = Machine(SOME.with_rules((Rule((None, ("diff",)), number(6)),)), (code,))
        self.assertIsNone(machine.go_on(RATE, most=4))
        for value in odd_values():
            self.assert_raises(InvalidPlace, machine.answer, value)
            self.assert_raises(InvalidPlace, machine.go_on, value, most=value)
            if type(value) is bool or value != 1:
                self.assertIs(self.assert_raises(InvalidNumber, machine.go_on, RATE, most=value).given, value)
            if value != {}:
                self.assert_raises(InvalidCells, machine.change, value)
        self.assert_raises(InvalidNumber, machine.go_on, ("jan", "a"), most=0)
        self.assert_raises(InvalidNumber, machine.go_on, ("jan", "a"), most=100001)
        self.assertEqual((machine.steps, machine.cube.cells), (4, SOME.cells))
        self.assertEqual(machine.go_on(RATE, most=2), ("worth", (6, 1)))

    def test_changes(self):
        machine = Machine(RULED)
        self.assertEqual(machine.answer(("all", "both")), ("worth", (21, 2)))
        self.assertEqual(machine.answer(RATE), ("worth", (3, 2)))
        self.assertIsNone(machine.change({("jan", "a"): (12, 1), ("jan", "b"): None}))
        self.assertEqual(machine.cube, RULED.with_cells({("jan", "a"): (12, 1), ("jan", "b"): None}))
        self.assertEqual(machine.answer(("all", "both")), ("worth", (18, 1)))
        self.assertEqual(machine.answer(RATE), ("worth", (1, 2)))
        self.assertEqual(machine.answer(("jan", "b")), ("nothing",))
        machine.change({("jan", "a"): (0, 1)})
        self.assertEqual(machine.answer(RATE), ("refused", ("zero", RATE)))
        machine.change({("jan", "a"): (1, 1)})
        self.assertEqual(machine.answer(RATE), ("worth", (6, 1)))
        self.assertEqual(RULED.cells, SOME.cells)

    def test_three_hundred_cells(self):
        names = tuple(f"n{n}" for n in range(30))
        outline = Outline((Side("p", names), Side("q", names)))
        places = list(outline.leaf_places())
        machine = Machine(Cube(outline, (), {place: ONE for place in places[:300]}))
        error = self.assert_raises(TooMany, machine.change, {places[300]: ONE})
        self.assertEqual((error.limit, len(machine.cube)), (300, 300))
        self.assertEqual(machine.answer(places[300]), ("nothing",))
        machine.change({places[300]: ONE, places[0]: None})
        self.assertEqual([machine.answer(places[at]) for at in (0, 1, 300)], [("nothing",), ("worth", ONE), ("worth", ONE)])

    def test_nothing_is_shared(self):
        machine = Machine(RULED)
        changes = {("jan", "a"): ONE}
        machine.change(changes)
        changes[("jan", "a")] = (2, 1)
        machine.cube.cells[("jan", "a")] = (3, 1)
        self.assertEqual(machine.answer(("jan", "a")), ("worth", ONE))
        other = Machine(machine.cube)
        other.change({("jan", "a"): None})
        self.assertEqual(machine.answer(("jan", "a")), ("worth", ONE))
        self.assertEqual(machine.steps, 0)

    def test_membership(self):
        machine = Machine(RULED)
        for value in odd_values() + [("jan", "a"), (["jan"], "a"), ("jan",)]:
            self.assertFalse(value in machine)
        machine.answer(("jan", "a"))
        self.assertTrue(("jan", "a") in machine)
        self.assertEqual(len(machine), 1)
        self.assertEqual(str(machine), "machine with 1 codes, 1 answers")
        machine.go_on(("feb", "a"))
        self.assertEqual(len(machine), 2)

    def test_each_instruction(self):
        """Code by hand, at a place whose shop is moved."""
        def told(*code):
            return Machine(RULED, (code + (TELL,),)).answer(("all", "diff"))
        months = ("fold", "sum", "time", ("leaves",))
        at_a, here = to(("shop", "a")), ("plus",)
        self.assertEqual(told(("worth", (nines(1000), 10 ** 999))), ("worth", (nines(1000), 10 ** 999)))
        self.assertEqual(told(NOTHING), ("nothing",))
        self.assertEqual(told(number(6), number(4), ("minus",)), ("worth", (2, 1)))
        self.assertEqual(told(number(6), number(4), ("over",)), ("worth", (3, 2)))
        self.assertEqual(told(NOTHING, number(4), ("minus",)), ("worth", (-4, 1)))
        self.assertEqual(told(number(6), NOTHING, ("times",)), ("nothing",))
        self.assertEqual(told(NOTHING, number(0), ("over",)), ("nothing",))
        self.assertEqual(told(number(6), number(0), ("over",)), ("refused", ("zero", ("all", "diff"))))
        great = number(nines(1000))
        self.assertEqual(told(great, great, here), ("refused", ("great", ("all", "diff"))))
        self.assertEqual(told(great, number(1), here), ("refused", ("great", ("all", "diff"))))
        self.assertEqual(told(great, great, ("minus",)), ("worth", (0, 1)))
        for word, one, other, truth in (("below", number(1), number(2), True), ("below", number(2), number(2), False),
                                        ("below", NOTHING, number(2), False), ("same", number(2), number(2), True),
                                        ("same", NOTHING, NOTHING, False), ("same", number(2), number(3), False)):
            expected = ("worth", (1, 1)) if truth else ("worth", (2, 1))
            self.assertEqual(told(one, other, (word,), ("unless", 6), number(1), ("jump", 7), number(2)), expected)
            other_one = ("worth", (3 - expected[1][0], 1))
            self.assertEqual(told(one, other, (word,), ("not",), ("unless", 7), number(1), ("jump", 8), number(2)), other_one)
        self.assertEqual(told(months + (3,), at_a, ("next",)), ("worth", (10, 1)))
        self.assertEqual(told(months + (5,), at_a, number(1), here, ("next",)), ("worth", (13, 1)))
        self.assertEqual(told(("fold", "last", "time", ("leaves",), 3), at_a, ("next",)), ("worth", (6, 1)))
        self.assertEqual(told(("fold", "first", "time", ("leaves",), 3), at_a, ("next",)), ("worth", (4, 1)))
        self.assertEqual(told(("fold", "sum", "shop", ("window", 2), 3), HERE, ("next",)), ("nothing",))
        self.assertEqual(told(number(5), ("set", 59), ("get", 59), here), ("worth", (10, 1)))
        # A slot keeps what an earlier member left in it.
        self.assertEqual(told(number(0), ("set", 1), months + (9,), ("get", 1), number(1), here, ("set", 1), ("jump", 8),
                              ("next",), here), ("worth", (6, 1)))
        self.assertEqual(told(number(1), months + (4,), number(2), ("next",), here), ("worth", (7, 1)))

    def test_the_place_that_is_read_refuses(self):
        sum_of_months = ("sum", "time", ("leaves",), ("over", number(1), to(("shop", "a"))))
        cube = SOME.with_rules((Rule((("all",), ("b",)), sum_of_months),)).with_cells({("feb", "a"): (0, 1)})
        machine = Machine(cube)
        self.assertEqual(machine.answer(("all", "b")), ("refused", ("zero", ("all", "b"))))
        self.assertEqual(machine.answer(("all", "diff")), cube.answer(("all", "diff")))

    def test_errors(self):
        code = (number(1), TELL)
        for value in odd_values():
            if value not in (SOME,):
                self.assert_raises(InvalidCube, Machine, value, value)
            if value is not None:
                self.assert_raises(InvalidCode, Machine, RULED, value)
                if value != ():
                    self.assert_raises(InvalidCode, Machine, SOME, value)
                self.assert_raises(InvalidCode, Machine, RULED, (value,))
        for codes in ((), (code, code), [code], code, (list(code),), (code[:1],), ((HERE, HERE, TELL),),
                      ((to(("zone", "a")), TELL),), ((to(("shop", "jan")), TELL),), ((("at", (("shop", ("parent", "year")),)), TELL),),
                      ((("fold", "sum", "zone", ("leaves",), 3), HERE, ("next",), TELL),),
                      ((("fold", "sum", "shop", ("children", "year"), 3), HERE, ("next",), TELL),),
                      ((("fold", "sum", "shop", ("members", ("a", "jan")), 3), HERE, ("next",), TELL),),
                      ((number(1), TELL, to(("zone", "a"))),)):
            self.assert_raises(InvalidCode, Machine, RULED, codes)
        self.assertEqual(Machine(RULED, (code,)).answer(RATE), ("worth", ONE))


class RandomMachines(unittest.TestCase):
    def test_against_the_plain_reading(self):
        for seed in range(250):
            chance = Chance(seed)
            cube = chance.cube()
            machine = Machine(cube)
            places = list(cube.outline.places())
            chance.random.shuffle(places)
            for place in places:
                self.assertEqual(machine.answer(place), cube.answer(place), (seed, place))
                self.assertTrue(place in machine)

    def test_handed_codes_and_all_kinds_of_calls(self):
        kinds = {}
        for seed in range(250):
            chance = Chance(seed)
            cube = chance.cube()
            made = tuple(CodeMaker(chance, cube.outline).make() for _ in cube.rules)
            machine = Machine(cube, made)
            reading = CodeReading(cube, made)
            places = list(cube.outline.places())
            for _ in range(40):
                place = chance.one_of(places)
                way = chance.random.random()
                if way < 0.15:
                    changes = {leaves: chance.one_of((None, chance.worth())) for leaves in cube.outline.leaf_places()
                               if chance.random.random() < 0.1}
                    machine.change(changes)
                    reading = CodeReading(machine.cube, made)
                elif way < 0.5:
                    self.assertEqual(machine.answer(place), reading.answer(place), (seed, place))
                elif way < 0.7:
                    told = machine.go_on(place, most=chance.random.randint(1, 5))
                    self.assertIn(told, (None, reading.answer(place)))
                else:
                    answer, _ = told_in_steps(machine, place, chance.random.randint(1, 4))
                    self.assertEqual(answer, reading.answer(place), (seed, place))
                    kind = answer[0] if answer[0] != "refused" else answer[1][0]
                    kinds[kind] = kinds.get(kind, 0) + 1
        self.assertTrue(all(kinds.get(kind, 0) > 20 for kind in ("worth", "nothing", "zero", "ring")), kinds)


class LongChains(unittest.TestCase):
    def setUp(self):
        self.limit = sys.getrecursionlimit()
        sys.setrecursionlimit(250)

    def tearDown(self):
        sys.setrecursionlimit(self.limit)

    def test_a_chain(self):
        machine = Machine(chain(same, number(7)))
        self.assertEqual(machine.answer(PLACES[-1]), ("worth", (7, 1)))
        self.assertEqual(len(machine), len(PLACES))
        self.assertEqual(machine.steps, 2 * len(PLACES))
        steps = machine.steps
        self.assertEqual(machine.answer(PLACES[5000]), ("worth", (7, 1)))
        self.assertEqual(machine.steps, steps)

    def test_go_on_along_a_chain(self):
        machine = Machine(chain(twice, number(7)))
        answer, calls = told_in_steps(machine, PLACES[-1], 1000)
        self.assertEqual(answer, ("worth", (7, 1)))
        self.assertEqual(calls, -(-machine.steps // 1000))

    def test_a_ring(self):
        cube = chain(twice, ("at", tuple((name, ("to", LAST)) for name in "pqr")))
        machine = Machine(cube)
        answer, _ = told_in_steps(machine, PLACES[-1], 100000)
        self.assertEqual(answer, cube.answer(PLACES[-1]))
        self.assertEqual(answer[1][0], "ring")
        self.assertEqual(len(answer[1][1]), len(PLACES))
        steps = machine.steps
        self.assertEqual(machine.answer(PLACES[77]), answer)
        self.assertEqual(machine.steps, steps)

    def test_a_refusal_at_the_end(self):
        machine = Machine(chain(twice, ("over", number(1), number(0))))
        self.assertEqual(machine.answer(PLACES[-1]), ("refused", ("zero", PLACES[0])))
        self.assertEqual(machine.answer(PLACES[300]), ("refused", ("zero", PLACES[0])))

    def test_great_ones(self):
        cube = chain(lambda back: ("plus", back, back), number(1))
        machine = Machine(cube)
        self.assertEqual(machine.answer(PLACES[-1]), ("refused", ("great", PLACES[3322])))
        self.assertEqual(machine.answer(PLACES[3321]), ("worth", (2 ** 3321, 1)))
        self.assertEqual(LONG, machine.cube.outline)


if __name__ == "__main__":
    unittest.main()
