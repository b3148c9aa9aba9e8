"""Code by its form, code of formulas, and the judge of code."""

import random
import unittest

from sumstead.code import making
from sumstead.code.judge import heights, is_sound, needs_of, slots_at
from sumstead.code.making import code_of, is_code
from sumstead.errors import InvalidCode, InvalidNumber, InvalidRule
from sumstead.plain.cubes import Cube
from sumstead.plain.formulas import nodes_in
from sumstead.plain.rules import Rule

import codes
from chance import Chance
from codes import CodeMaker, CodeReading
from examples import FLAT, HERE, NOTHING, ONE, Checks, nines, number, odd_values, raised, to
from plainly import Plain

CODE = (("at", ()), ("worth", (2, 1)), ("times",), ("tell",))
ALONE = ("nothing", "plus", "minus", "times", "over", "below", "same", "there", "not", "next", "tell")
TELL = ("tell",)
FOLD = ("fold", "sum", "time", ("leaves",), 2)
MOVES = (("shop", ("to", "a")), ("time", ("step", -30)))

# Instructions that have their form at the index 0 of three instructions.
RIGHT = [(word,) for word in ALONE] + [
    ("worth", ONE), ("worth", (-nines(1000), 10 ** 999)), ("worth", (0, 1)), ("worth", (10 ** 61, 1)), ("truth", True),
    ("truth", False), ("at", ()), ("at", MOVES), ("jump", 1), ("jump", 2), ("unless", 1), ("unless", 2), ("set", 0),
    ("set", 59), ("get", 0), ("get", 59), FOLD, ("fold", "first", "x", ("window", 30), 1),
    ("fold", "last", "x", ("members", ("a", "b")), 2), ("fold", "sum", "x", ("children", "h"), 1),
    ("fold", "sum", "x", ("sofar", "h"), 1),
]

WRONG = [(word, 1) for word in ALONE] + [
    (), ("worth",), ("worth", 1), ("worth", (2, 2)), ("worth", (True, 1)), ("worth", (1, True)), ("worth", (1, 0)),
    ("worth", (10 ** 1000, 1)), ("worth", (1, 10 ** 1000)), ("worth", ONE, ONE), ("worth", None), ("truth",), ("truth", 1),
    ("truth", 0), ("truth", None), ("truth", "True"), ("at",), ("at", MOVES[::-1]), ("at", (("shop", ("step", 0)),)),
    ("at", (("shop", ("step", 31)),)), ("at", (("shop", ("step", True)),)), ("at", (("Shop", ("to", "a")),)), ("at", [()]),
    ("at", ((),)), ("at", None), ("jump",), ("jump", 0), ("jump", -1), ("jump", 3), ("jump", True), ("jump", "1"),
    ("jump", 1, 2), ("unless", 0), ("unless", 3), ("unless", True), ("unless", None), ("set",), ("set", 60), ("set", -1),
    ("set", True), ("set", False), ("get", 60), ("get", "0"), ("get", 0, 0), FOLD[:4], FOLD + (1,), FOLD[:4] + (0,),
    FOLD[:4] + (3,), FOLD[:4] + (True,), ("fold", "min", "time", ("leaves",), 2), ("fold", "sum", "Time", ("leaves",), 2),
    ("fold", "sum", "time", ("leaves", 1), 2), ("fold", "sum", "time", ("window", 31), 2), ("fold", "sum", "time", "leaves", 2),
    ("fold", "sum", "time", ("members", ()), 2), ("fold", ["sum"], "time", ("leaves",), 2), ("sum", "time", ("leaves",), 2),
    ("if", 1), ("halt",), ["tell"], "tell", ("TELL",), (TELL,), (1,), (None,), ([],), TELL + (None,), ("both",),
]


class Forms(unittest.TestCase, Checks):
    def test_constants(self):
        self.assertEqual((making.MAX_CODE, making.MAX_SLOTS), (2000, 60))

    def test_instructions(self):
        for row in RIGHT:
            self.assertIs(is_code((row, TELL, TELL)), True, row)
        for row in WRONG + [value for value in odd_values() if value not in ((), "")]:
            self.assertIs(is_code((row, TELL, TELL)), False, row)
            self.assertIs(is_sound((row, TELL, TELL)), False, row)

    def test_later_instructions(self):
        for word in ("jump", "unless"):
            for at in range(5):
                for goal in range(-1, 6):
                    rows = [NOTHING] * 5
                    rows[at] = (word, goal)
                    self.assertIs(is_code(tuple(rows)), at < goal < 5)
                    rows[at] = FOLD[:4] + (goal,)
                    self.assertIs(is_code(tuple(rows)), at < goal < 5)

    def test_lengths(self):
        self.assertIs(is_code(()), False)
        self.assertIs(is_code((NOTHING,)), True)
        self.assertIs(is_code((NOTHING,) * 2000), True)
        self.assertIs(is_code((NOTHING,) * 2001), False)
        self.assertIs(is_code([NOTHING, TELL]), False)
        self.assertIs(is_sound((NOTHING,) + (("set", 0),) * 1998 + (TELL,)), True)
        self.assertIs(is_sound((NOTHING,) + (("set", 0),) * 1999 + (TELL,)), False)
        for value in odd_values():
            self.assertIs(is_code(value), False)

    def test_a_long_pile_of_operands(self):
        code = (HERE,) * 1000 + (("plus",),) * 999 + (TELL,)
        self.assertIs(is_sound(code), True)
        self.assertEqual(heights(code)[1000], "w" * 1000)
        self.assertEqual(max(len(kinds) for kinds in heights(code)), 1000)
        self.assertIs(is_sound(code[1:]), False)
        self.assertIs(is_sound(code[:-2] + (TELL,)), False)


class CodesOfFormulas(unittest.TestCase, Checks):
    def test_sound_code_that_tells_the_same(self):
        seen = {}
        for seed in range(400):
            chance = Chance(seed)
            cube = chance.cube()
            made = tuple(code_of(rule.formula) for rule in cube.rules)
            for code in made:
                self.assertTrue(is_code(code) and codes.is_sound(code))
            plain, reading = Plain(cube), CodeReading(cube, made)
            for place in cube.outline.places():
                answer = plain.answer(place)
                self.assertEqual(reading.answer(place), answer, (seed, place))
                seen[answer[0]] = seen.get(answer[0], 0) + 1
        self.assertTrue(all(seen[word] > 100 for word in ("worth", "nothing", "refused")))

    def test_each_kind_of_node(self):
        tests = [("below", HERE, number(2)), ("same", HERE, number(4)), ("there", HERE), ("not", ("there", NOTHING))]
        tests += [(word, one, other) for word in ("both", "either") for one in tests[:2] for other in tests[2:]]
        formulas = [number(3), NOTHING, HERE, to(("shop", "a"))]
        formulas += [(word, HERE, number(2)) for word in ("plus", "minus", "times", "over")]
        formulas += [("if", test, number(1), HERE) for test in tests]
        formulas += [(word, "time", span, HERE) for word in ("sum", "first", "last")
                     for span in (("leaves",), ("members", ("feb", "jan")), ("children", "year"), ("window", 2), ("sofar", "year"))]
        formulas += [("sum", "time", ("leaves",), ("last", "shop", ("children", "sums"), to()))]
        cells = {("jan", "a"): (4, 1), ("feb", "a"): (1, 1), ("feb", "b"): (1, 2), ("mar", "b"): (0, 1)}
        moved = ("at", (("shop", ("to", "a")),))
        for formula in formulas:
            formula = self.replaced(formula, moved)
            cube = Cube(FLAT, (Rule((None, ("diff",)), formula),), cells)
            reading = CodeReading(cube, (code_of(formula),))
            for month in ("jan", "feb", "mar", "all"):
                self.assertEqual(reading.answer((month, "diff")), cube.answer((month, "diff")), formula)

    def replaced(self, node, moved):
        """The node that asks the places of one shop instead of its own."""
        if node == HERE:
            return moved
        return tuple(self.replaced(part, moved) if type(part) is tuple else part for part in node)

    def test_greatest_formulas(self):
        formula = HERE
        for _ in range(6):
            formula = ("if", ("there", NOTHING), HERE, formula)
        self.assertIs(is_sound(code_of(formula)), True)
        level = [HERE] * 30
        while len(level) > 1:
            level = [("times", one, other) for one, other in zip(level[::2], level[1::2])] + level[len(level) // 2 * 2:]
        self.assertEqual(nodes_in(level[0]), 59)
        self.assertIs(is_sound(code_of(level[0])), True)
        self.assertEqual(code_of(("worth", (nines(60), 10 ** 59))), (("worth", (nines(60), 10 ** 59)), TELL))

    def test_errors(self):
        for value in odd_values() + [("there", HERE), ("tell",), CODE, ("worth", (10 ** 60, 1))]:
            self.assert_raises(InvalidRule, code_of, value)


# Code that is sound.
SOUND = [
    (NOTHING, TELL), (NOTHING, TELL, TELL), (NOTHING, TELL, ("plus",)), (NOTHING, TELL, ("get", 5), ("next",)),
    (("jump", 2), ("over",), HERE, TELL), (("truth", True), ("unless", 4), NOTHING, ("jump", 5), HERE, TELL),
    (("truth", True), ("unless", 4), NOTHING, TELL, HERE, TELL), (("truth", True), ("unless", 2), NOTHING, TELL),
    (HERE, ("set", 0), ("get", 0), ("plus",), TELL), (HERE, ("set", 59), ("get", 59), ("times",), TELL),
    (FOLD[:4] + (3,), HERE, ("next",), TELL), (NOTHING, FOLD[:4] + (4,), HERE, ("next",), ("plus",), TELL),
    (FOLD[:4] + (5,), FOLD[:4] + (4,), HERE, ("next",), ("next",), TELL),
    (FOLD[:4] + (8,), ("truth", False), ("unless", 5), HERE, ("jump", 6), NOTHING, ("set", 1), ("next",), TELL),
    (HERE, ("set", 1), FOLD[:4] + (5,), ("get", 1), ("next",), ("get", 1), ("plus",), ("plus",), TELL),
    (("truth", True), ("unless", 4), NOTHING, ("jump", 5), HERE, ("set", 2), ("there",), ("unless", 8), ("get", 2), TELL),
]

# Code that is not, but for the form.
UNSOUND = [
    (NOTHING,), (TELL,), (("truth", True), TELL), (NOTHING, NOTHING, TELL), (NOTHING, ("plus",), TELL),
    (NOTHING, ("not",), TELL), (("truth", True), ("there",), TELL), (("truth", True), NOTHING, ("plus",), TELL),
    (NOTHING, ("unless", 2), NOTHING, TELL), (("truth", True), ("set", 0), ("unless", 3), NOTHING, TELL), (("set", 0), NOTHING, TELL),
    # ways that come with unlike operands
    (("truth", True), ("unless", 3), NOTHING, NOTHING, TELL), (("truth", True), ("unless", 4), NOTHING, ("jump", 5), ("truth", True), TELL),
    # a slot that is not set on each way
    (("get", 0), TELL), (("truth", True), ("unless", 5), HERE, ("set", 1), ("jump", 6), NOTHING, ("get", 1), ("plus",), TELL),
    (FOLD[:4] + (4,), HERE, ("set", 1), ("next",), ("get", 1), ("plus",), TELL),
    (FOLD[:4] + (6,), ("get", 1), ("plus",), HERE, ("set", 1), ("next",), TELL), (HERE, ("set", 1), ("get", 2), ("plus",), TELL),
    # ways that lead past the end
    (("truth", True), ("unless", 3), ("jump", 4), NOTHING, NOTHING), (NOTHING, ("jump", 2), ("there",)),
    # operands below the innermost fold
    (NOTHING, FOLD[:4] + (5,), HERE, ("plus",), ("next",), TELL), (NOTHING, FOLD[:4] + (3,), ("next",), ("plus",), TELL),
    (NOTHING, FOLD[:4] + (5,), ("set", 0), HERE, ("next",), ("plus",), TELL), (NOTHING, FOLD[:4] + (3,), ("next",), TELL),
    (NOTHING, FOLD[:4] + (4,), ("there",), ("next",), TELL),
    # what stands at a next
    (NOTHING, ("next",), TELL), (FOLD[:4] + (2,), HERE, ("next",), TELL), (FOLD[:4] + (4,), HERE, ("next",), HERE, TELL),
    (FOLD[:4] + (4,), HERE, HERE, ("next",), TELL), (FOLD[:4] + (3,), ("truth", True), ("next",), TELL), (FOLD[:4] + (2,), ("next",), TELL),
    (FOLD[:4] + (4,), FOLD[:4] + (4,), HERE, ("next",), TELL),
    # folds that stay open, or three of them
    (FOLD[:4] + (3,), HERE, TELL, TELL), (FOLD[:4] + (1,), HERE, TELL), (FOLD[:4] + (4,), HERE, ("jump", 4), ("next",), TELL),
    (FOLD[:4] + (7,), FOLD[:4] + (6,), FOLD[:4] + (5,), HERE, ("next",), ("next",), ("next",), TELL),
    # one next for two folds
    (("truth", True), ("unless", 4), FOLD[:4] + (7,), ("jump", 5), FOLD[:4] + (7,), HERE, ("next",), TELL),
    # into a fold
    (("truth", True), ("unless", 3), FOLD[:4] + (5,), HERE, ("next",), TELL),
]


class Judging(unittest.TestCase, Checks):
    def test_examples(self):
        told = [heights(CODE), is_sound(CODE[:3]), needs_of(CODE), slots_at((("nothing",), ("set", 3), ("tell",)), 2)]
        self.assertEqual(told, [('', 'w', 'ww', 'w'), False, ((),), (3,)])

    def test_sound_and_unsound(self):
        for code in SOUND:
            self.assertTrue(is_code(code), code)
            self.assertIs(is_sound(code), True, code)
            self.assertIs(codes.is_sound(code), True, code)
        for code in UNSOUND:
            self.assertTrue(is_code(code), code)
            self.assertIs(is_sound(code), False, code)
            self.assertIs(codes.is_sound(code), False, code)

    def test_heights(self):
        self.assertEqual(heights((NOTHING, TELL, ("plus",), TELL)), ("", "w", None, None))
        self.assertEqual(heights(SOUND[13]), ("", "", "t", "", "w", "", "w", "w", "w"))
        self.assertEqual(heights((NOTHING, FOLD[:4] + (6,), HERE, HERE, ("plus",), ("next",), ("truth", True),
                                  ("unless", 8), ("plus",), TELL)), ("", "w", "w", "ww", "www", "ww", "ww", "wwt", "ww", "w"))
        self.assertEqual(heights((("jump", 3), NOTHING, ("jump", 4), HERE, TELL)), ("", None, None, "", "w"))

    def test_slots(self):
        code = (("truth", True), ("unless", 6), HERE, ("set", 4), ("set", 1), ("jump", 8), HERE, ("set", 4), ("set", 2), TELL, HERE)
        told = [slots_at(code, index) for index in range(10)]
        self.assertEqual(told, [(), (), (), (), (4,), (1, 4), (), (), (4,), (2, 4)])
        fold = (HERE, ("set", 7), FOLD[:4] + (6,), HERE, ("set", 3), ("next",), ("plus",), TELL)
        self.assertEqual([slots_at(fold, index) for index in (2, 3, 5, 6)], [(7,), (7,), (3, 7), (7,)])
        wide = (HERE,) + tuple(("set", slot) for slot in range(60)) + (TELL,)
        self.assertEqual(slots_at(wide, 61), tuple(range(60)))

    def test_needs(self):
        code = (("at", (("time", ("to", "jan")),)), ("at", (("time", ("step", 3)),)), ("plus",), ("at", ()), ("plus",),
                ("at", (("time", ("step", -3)),)), ("plus",), ("at", ()), ("plus",), TELL, ("at", (("shop", ("to", "a")),)))
        self.assertEqual(needs_of(code), ((), (("time", ("step", -3)),), (("time", ("step", 3)),), (("time", ("to", "jan")),)))
        self.assertEqual(needs_of((NOTHING, TELL)), ())
        self.assertEqual(needs_of((("truth", False), ("unless", 4), HERE, TELL, NOTHING, TELL)), ((),))
        self.assertEqual(needs_of((("jump", 2), HERE, NOTHING, TELL)), ())

    def test_errors(self):
        for value in odd_values() + UNSOUND + [CODE[:3], list(CODE), (TELL,)]:
            for call in (heights, needs_of):
                self.assert_raises(InvalidCode, call, value)
            self.assert_raises(InvalidCode, slots_at, value, value)
            self.assertIs(is_sound(value), False)
        code = (("jump", 2), HERE, NOTHING, TELL)
        for value in odd_values() + [1, 4, -1, 10 ** 60]:
            if value != 0 or type(value) is bool:
                self.assertIs(self.assert_raises(InvalidNumber, slots_at, code, value).given, value)
        self.assertEqual(slots_at(code, 3), ())

    def test_random_code(self):
        for seed in range(400):
            chance = Chance(seed)
            code = CodeMaker(chance, chance.outline(), 80).make()
            self.check(code)
            self.assertTrue(is_sound(code), seed)
            # One instruction less, or another one, may spoil it.
            at = chance.random.randrange(len(code))
            for other in (code[:at] + code[at + 1:], code[:at] + (chance.one_of(RIGHT),) + code[at + 1:]):
                if is_code(other):
                    self.check(other)

    def test_random_rows(self):
        chance = random.Random(7)
        rows = [("worth", ONE), NOTHING, ("truth", True), HERE, ("plus",), ("below",), ("there",), ("not",), ("next",), ("set", 1),
                ("get", 1), TELL, ("jump", 0), ("unless", 0), FOLD]
        sound = 0
        for _ in range(30000):
            many = chance.randint(2, 8)
            code = []
            for at in range(many):
                row = chance.choice(rows)
                if row[0] in ("jump", "unless", "fold"):
                    row = row[:-1] + (chance.randint(at + 1, many - 1),) if at + 1 < many else TELL
                code.append(row)
            self.assertTrue(is_code(tuple(code)))
            sound += self.check(tuple(code))
        self.assertGreater(sound, 300)

    def check(self, code):
        told = codes.is_sound(code)
        self.assertIs(is_sound(code), told, code)
        if not told:
            self.assertIs(type(raised(heights, code)), InvalidCode)
            return False
        kinds = codes.heights(code)
        self.assertEqual(heights(code), kinds)
        for index in range(len(code)):
            if kinds[index] is None:
                self.assert_raises(InvalidNumber, slots_at, code, index)
            else:
                self.assertEqual(slots_at(code, index), codes.slots_at(code, index))
        moves = {row[1] for row, kind in zip(code, kinds) if row[0] == "at" and kind is not None}
        self.assertEqual(needs_of(code), tuple(sorted(moves)))
        return True


if __name__ == "__main__":
    unittest.main()
