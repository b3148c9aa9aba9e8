import unittest

from sumstead.base.worths import worth
from sumstead.errors import InvalidCells, InvalidCube, InvalidOperation, InvalidPlace, InvalidRule, Refused
from sumstead.outline.outlines import Outline, Side
from sumstead.plain.cubes import Cube
from sumstead.plain.forms import Form, does_part, form_of, is_linear, parting_of
from sumstead.plain.rules import Rule

from examples import FLAT, HERE, LOOP, NOTHING, ONE, RULED, SOME, Checks, nines, number, odd_values, to

ZERO = (0, 1)
A, B = to(("shop", "a")), to(("shop", "b"))
JAN_A, JAN_B, FEB_A = ("jan", "a"), ("jan", "b"), ("feb", "a")
DIFF = ("jan", "diff")


def form(formula, place=DIFF):
    return form_of(Cube(FLAT, (Rule((None, ("diff",)), formula),)), place)


class Linear(unittest.TestCase, Checks):
    def test_linear_ones(self):
        fold = ("sum", "time", ("leaves",), A)
        for value in (number(3), NOTHING, HERE, ("plus", A, ("minus", B, number(1))), ("times", number(0), A),
                      ("times", A, number(2)), ("times", number(2), number(3)), ("over", A, number(-1, 2)), fold,
                      ("times", number(2), ("plus", fold, A)), ("over", ("times", A, number(2)), number(3)),
                      ("times", NOTHING, number(2))):
            self.assertIs(is_linear(value), True, value)

    def test_others(self):
        test = ("there", A)
        for value in (("times", A, B), ("times", A, NOTHING), ("over", number(1), A), ("over", A, number(0)),
                      ("over", A, NOTHING), ("if", test, A, A), ("first", "time", ("leaves",), A),
                      ("last", "time", ("leaves",), A), ("sum", "time", ("leaves",), ("times", A, A)),
                      ("plus", A, ("times", A, B)), ("minus", ("over", A, B), A),
                      ("times", ("plus", number(1), number(2)), A), ("times", number(2), ("times", A, B)),
                      ("over", A, ("plus", number(1), number(1))), ("over", ("times", A, B), number(2)),
                      ("sum", "time", ("leaves",), ("first", "time", ("leaves",), A)),
                      ("minus", A, ("times", A, B)), ("times", ("times", A, B), number(2))):
            self.assertIs(is_linear(value), False, value)

    def test_errors(self):
        for value in odd_values() + [("there", A), ("plus", A)]:
            self.assert_raises(InvalidRule, is_linear, value)


class Forms(unittest.TestCase, Checks):
    def test_properties(self):
        one = Form((1, 2), {("b",): ONE, ("a",): (2, 1)}, True)
        self.assertEqual((one.constant, one.always), ((1, 2), True))
        self.assertEqual(list(one.weights.items()), [(("a",), (2, 1)), (("b",), ONE)])
        self.assertEqual(len(one), 2)
        self.assertEqual(str(Form((1, 2), {JAN_A: ONE, JAN_B: ONE, FEB_A: ONE}, True)), "form of 3 weights, constant 1/2")
        with self.assertRaises(TypeError):
            iter(one)

    def test_nothing_is_shared(self):
        weights = {("a",): ONE}
        one = Form(ZERO, weights, False)
        weights[("b",)] = ONE
        one.weights.clear()
        self.assertEqual(one.weights, {("a",): ONE})

    def test_equality(self):
        one = Form(ONE, {JAN_A: ONE}, True)
        self.assertTrue(one == Form(ONE, {JAN_A: ONE}, True))
        self.assertFalse(one != Form(ONE, {JAN_A: ONE}, True))
        for other in odd_values() + [Form(ZERO, {JAN_A: ONE}, True), Form(ONE, {JAN_B: ONE}, True), Form(ONE, {}, True)]:
            self.assertFalse(one == other)
            self.assertTrue(one != other)
        self.assertFalse(Form(ZERO, {JAN_A: ONE}, True) == Form(ZERO, {JAN_A: ONE}, False))

    def test_right_arguments(self):
        Form((nines(1000), 1), {("a",): (1, nines(1000))}, True)
        Form(ZERO, {("a",): ZERO}, False)
        Form(ZERO, {}, False)
        Form(ZERO, {("a", "b", "c", "d", "e"): ONE}, True)

    def test_bounds_of_the_dict(self):
        names = [f"n{index}" for index in range(150)]
        keys = [(one, other) for one in names for other in names][:20001]
        self.assertEqual(len(Form(ZERO, {key: ONE for key in keys[:20000]}, True)), 20000)
        self.assert_raises(InvalidOperation, Form, ZERO, {key: ONE for key in keys}, True)

    def test_wrong_arguments(self):
        for value in odd_values() + [(10 ** 1000, 1), (1, 10 ** 1000)]:
            self.assert_raises(InvalidOperation, Form, value, {}, True)
            if value != {}:
                self.assert_raises(InvalidOperation, Form, ZERO, value, True)
            if value is not True and value is not False:
                self.assert_raises(InvalidOperation, Form, ZERO, {}, value)
            self.assert_raises(InvalidOperation, Form, ZERO, {("a",): value}, False)
        for weights in ({("a",): ONE, ("a", "b"): ONE}, {(): ONE}, {("a",) * 6: ONE}, {("A",): ONE}, {"a": ONE},
                        {("a", 1): ONE}, {("a",): (2, 2)}, [((("a",)), ONE)]):
            self.assert_raises(InvalidOperation, Form, ZERO, weights, False)
        self.assert_raises(InvalidOperation, Form, ONE, {}, False)
        self.assert_raises(InvalidOperation, Form, ONE, {("a",): ZERO}, True)

    def test_at(self):
        sometimes = Form(ZERO, {JAN_A: (2, 1), JAN_B: ZERO}, False)
        self.assertIsNone(sometimes.at({}))
        self.assertIsNone(sometimes.at({FEB_A: ONE}))
        self.assertEqual(sometimes.at({JAN_B: (7, 1)}), ZERO)
        self.assertEqual(sometimes.at({JAN_A: (7, 2), JAN_B: ONE, FEB_A: ONE}), (7, 1))
        always = Form((1, 2), {JAN_A: (2, 1)}, True)
        self.assertEqual(always.at({}), (1, 2))
        self.assertEqual(always.at({JAN_A: ONE, ("x",): ONE}), (5, 2))
        for value in odd_values() + [{JAN_A: None}, {JAN_A: (1, 1001)}, {("a",) * 6: ONE}, {"a": ONE}, {("A",): ONE}]:
            if value != {}:
                self.assert_raises(InvalidCells, always.at, value)
        many = {(f"n{index}",): ONE for index in range(301)}
        self.assert_raises(InvalidCells, always.at, many)
        del many[("n0",)]
        self.assertEqual(always.at(many), (1, 2))


class FormsOfPlaces(unittest.TestCase, Checks):
    def test_without_rules(self):
        self.assertEqual(form_of(SOME, ("jan", "diff")), Form(ZERO, {JAN_A: ONE, JAN_B: (-1, 1)}, False))
        self.assertEqual(form_of(SOME, JAN_A), Form(ZERO, {JAN_A: ONE}, False))
        self.assertEqual(form_of(Cube(FLAT), JAN_A), form_of(SOME, JAN_A))

    def test_with_linear_rules(self):
        for formula, expected in (
                (number(3), Form((3, 1), {}, True)), (NOTHING, Form(ZERO, {}, False)),
                (("plus", A, number(2)), Form((2, 1), {JAN_A: ONE}, True)),
                (("minus", A, A), Form(ZERO, {JAN_A: ZERO}, False)),
                (("plus", ("minus", A, A), number(0)), Form(ZERO, {}, True)),
                (("minus", NOTHING, A), Form(ZERO, {JAN_A: (-1, 1)}, False)),
                (("times", number(0), A), Form(ZERO, {JAN_A: ZERO}, False)),
                (("times", NOTHING, number(5)), Form(ZERO, {}, False)),
                (("times", number(2), ("plus", A, number(1, 2))), Form(ONE, {JAN_A: (2, 1)}, True)),
                (("over", ("plus", A, B), number(2)), Form(ZERO, {JAN_A: (1, 2), JAN_B: (1, 2)}, False)),
                (("times", number(2), number(3)), Form((6, 1), {}, True)),
                (("sum", "time", ("children", "year"), A), Form(ZERO, {}, False)),
                (("sum", "time", ("members", ("feb", "jan")), A), Form(ZERO, {FEB_A: ONE, JAN_A: ONE}, False)),
                (("sum", "time", ("members", ("feb", "jan")), number(2)), Form((4, 1), {}, True)),
                (("at", (("time", ("step", -1)),)), Form(ZERO, {}, False))):
            self.assertEqual(form(formula), expected, formula)

    def test_orders(self):
        cube = SOME.with_rules((Rule((("all",), ("a",)), number(100)),))
        place = ("all", "both")
        self.assertEqual(form_of(cube, place, order=(0, 1)), form_of(SOME, place))
        self.assertEqual(form_of(cube, place), form_of(SOME, place))
        other = form_of(cube, place, order=(1, 0))
        self.assertEqual((other.constant, other.always, len(other)), ((100, 1), True, 3))

    def test_refusals(self):
        error = self.assert_raises(Refused, form_of, RULED, DIFF)
        self.assertEqual(error.reason, ("rule", 0))
        self.assertEqual(self.assert_raises(Refused, form_of, LOOP, ("all", "both")).reason,
                         ("ring", (("jan", "b"), ("jan", "both"))))
        both = LOOP.with_rules(LOOP.rules + (Rule((("jan",), ("a",)), ("times", HERE, HERE)),))
        self.assertEqual(self.assert_raises(Refused, form_of, both, ("all", "both")).reason, ("rule", 1))
        self.assertEqual(form_of(RULED, ("all", "both")), form_of(SOME, ("all", "both")))

    def big(self, *areas):
        """A cube in which places with diff are told each 10 ** 59 times the one ahead, a step to the right."""
        names = tuple(f"n{index:02}" for index in range(20))
        outline = Outline((Side("s", names), Side("t", ("x", "y"))))
        ahead = ("at", (("s", ("step", -1)),))
        rules = (Rule((None, ("x",)), ("times", ahead, number(10 ** 59))),
                 Rule((("n00",), ("x",)), ("at", (("t", ("to", "y")),)), 1)) + areas
        return Cube(outline, rules)

    def test_numbers_of_1000_and_1001_digits(self):
        cube = self.big()
        self.assertEqual(form_of(cube, ("n16", "x")), Form(ZERO, {("n00", "y"): (10 ** 944, 1)}, False))
        self.assertEqual(self.assert_raises(Refused, form_of, cube, ("n18", "x")).reason, ("great", ("n17", "x")))
        for top, expected in ((10 ** 55, True), (10 ** 56, False)):
            last = Rule((("n17",), ("x",)), ("times", ("at", (("s", ("step", -1)),)), number(top)), 1)
            cube = self.big(last)
            if expected:
                self.assertEqual(form_of(cube, ("n17", "x")), Form(ZERO, {("n00", "y"): (10 ** 999, 1)}, False))
            else:
                self.assertEqual(self.assert_raises(Refused, form_of, cube, ("n17", "x")).reason,
                                 ("great", ("n17", "x")))

    def test_great_only_where_a_place_was_read(self):
        # Within one formula a number may be long, if the form of the place is not.
        ahead = ("at", (("s", ("step", -1)),))
        node = ("over", ("times", ahead, number(10 ** 59)), number(10 ** 59))
        cube = self.big(Rule((("n17",), ("x",)), node, 1))
        self.assertEqual(form_of(cube, ("n17", "x")), Form(ZERO, {("n00", "y"): (10 ** 944, 1)}, False))
        long = ("over", ("times", ("times", ahead, number(10 ** 59)), number(10)), number(10 ** 59))
        cube = self.big(Rule((("n17",), ("x",)), long, 1))
        self.assertEqual(form_of(cube, ("n17", "x")), Form(ZERO, {("n00", "y"): (10 ** 945, 1)}, False))

    def test_many_unlike_bottoms(self):
        """Weights that have no short common bottom are told exactly, and refused as great exactly."""
        names = tuple(f"n{index:02}" for index in range(30))
        outline = Outline((Side("s", names), Side("t", ("x", "y", "z"))))
        bottoms = [10 ** 59 + 2 * index + 1 for index in range(30)]

        def told(begin, end, node):
            for index in range(begin, end):
                cell = ("at", (("s", ("to", names[index])), ("t", ("to", "x"))))
                node = ("plus", node, ("over", cell, number(bottoms[index])))
            return node

        def rule(name, formula):
            return Rule(((name,), ("y",)), formula)

        def at(name):
            return ("at", (("s", ("to", name)),))
        rules = [rule(names[index // 6], told(index, index + 6, at(names[index // 6 - 1]) if index else NOTHING))
                 for index in range(0, 30, 6)]
        rules.append(rule("n05", ("times", number(7), at("n04"))))
        rules.append(rule("n06", ("minus", at("n05"), ("times", number(7), at("n04")))))
        for index in range(7, 24):
            rules.append(rule(names[index], ("times", at("n05" if index == 7 else names[index - 1]), number(10 ** 59))))
        cube = Cube(outline, tuple(rules))
        cells = [(name, "x") for name in names]
        weights = {cell: (1, bottom) for cell, bottom in zip(cells, bottoms)}
        self.assertEqual(form_of(cube, ("n04", "y")), Form(ZERO, weights, False))
        self.assertEqual(form_of(cube, ("n06", "y")), Form(ZERO, {cell: ZERO for cell in cells}, False))
        for many, place in ((15, "n21"), (16, "n22")):
            expected = {}
            for cell, bottom in zip(cells, bottoms):
                expected[cell] = worth(7 * 10 ** (59 * many), bottom)
            self.assertEqual(form_of(cube, (place, "y")), Form(ZERO, expected, False))
        self.assertEqual(self.assert_raises(Refused, form_of, cube, ("n23", "y")).reason, ("great", ("n23", "y")))
        always = Rule((("n06",), ("z",)), ("plus", number(3), ("at", (("t", ("to", "y")),))))
        self.assertEqual(form_of(Cube(outline, tuple(rules) + (always,)), ("n06", "z")), Form((3, 1), {}, True))

    def test_errors(self):
        for value in odd_values() + [[0, 1], (0,), (0, 0), (False, True)]:
            if value is not None and value != (1, 0):
                self.assert_raises(InvalidOperation, form_of, RULED, DIFF, order=value)
            if value is not SOME:
                self.assert_raises(InvalidCube, form_of, value, value, order=value)
            self.assert_raises(InvalidPlace, form_of, SOME, value, order=value)


class PartingDicts(unittest.TestCase, Checks):
    FORMS = (Form(ZERO, {}, False), Form(ZERO, {}, True), Form(ONE, {}, True), Form(ZERO, {JAN_A: ZERO}, False),
             Form(ZERO, {JAN_A: ONE}, False), Form(ZERO, {JAN_A: ONE}, True), Form(ZERO, {JAN_B: ONE}, True),
             Form(ONE, {JAN_A: (2, 1), JAN_B: ONE}, True), Form(ONE, {JAN_A: (2, 1)}, True), Form(ZERO, {("x",): ONE}, False),
             Form(ZERO, {JAN_A: (nines(1000), 1)}, False))

    def test_all_pairs(self):
        for one in self.FORMS:
            for other in self.FORMS:
                value = parting_of(one, other)
                if one is other:
                    self.assertIsNone(value)
                    self.assertIs(does_part(one, other, {}), False)
                else:
                    self.assertLessEqual(len(value), 1)
                    self.assertNotEqual(one.at(value), other.at(value))
                    self.assertIs(does_part(one, other, value), True)

    def test_whatever_is_right_is_accepted_and_nothing_else(self):
        one, other = Form(ZERO, {JAN_A: ONE}, False), Form(ZERO, {JAN_A: (2, 1)}, False)
        for value in ({JAN_A: (5, 7)}, {JAN_A: (-1, 1)}):
            self.assertIs(does_part(one, other, value), True)
        for value in odd_values() + [{}, None, {JAN_A: ZERO}, {JAN_B: ONE}, {JAN_A: ONE, JAN_B: ONE}, {JAN_A: None},
                                     {JAN_A: (1, 1001)}, ((JAN_A, ONE),)]:
            self.assertIs(does_part(one, other, value), False, value)

    def test_errors(self):
        one = self.FORMS[0]
        for value in odd_values():
            self.assert_raises(InvalidOperation, parting_of, value, value)
            self.assert_raises(InvalidOperation, parting_of, one, value)
            self.assert_raises(InvalidOperation, does_part, value, one, value)
            self.assert_raises(InvalidOperation, does_part, one, value, value)


if __name__ == "__main__":
    unittest.main()
