import unittest

from sumstead.errors import InvalidCells, InvalidCube, InvalidOutline, InvalidPlace, InvalidRule, TooMany
from sumstead.outline.outlines import Outline, Side
from sumstead.plain import cubes
from sumstead.plain.cubes import Cube
from sumstead.plain.rules import Rule

from examples import (FLAT, GROWTH, HERE, LOOP, NOTHING, ONE, RULED, SHOP, SOME, TIME, Checks, nines, number, odd_values,
                      to)

A, B = to(("shop", "a")), to(("shop", "b"))
JAN_A, JAN_B, FEB_A, FEB_B = ("jan", "a"), ("jan", "b"), ("feb", "a"), ("feb", "b")
MAR_A, MAR_B = ("mar", "a"), ("mar", "b")


def telling(formula, area=(None, ("diff",)), cells=None):
    """A cube in which one rule tells the places with diff."""
    return Cube(FLAT, (Rule(area, formula),), SOME.cells if cells is None else cells)


def told(formula, place=("jan", "diff"), cells=None):
    return telling(formula, cells=cells).answer(place)


class Cubes(unittest.TestCase, Checks):
    def test_example(self):
        answers = [SOME.answer(("all", "both")), SOME.answer(("jan", "diff")), SOME.answer(("mar", "both")),
                   SOME.needs(("all", "both"))]
        self.assertEqual(answers, [('worth', (21, 2)), ('worth', (7, 2)), ('nothing',),
                                   (('jan', 'both'), ('feb', 'both'), ('mar', 'both'))])

    def test_properties(self):
        self.assertEqual(cubes.MAX_CELLS, 300)
        self.assertEqual(SOME.outline, FLAT)
        self.assertEqual(SOME.rules, ())
        self.assertEqual(RULED.rules, (GROWTH,))
        self.assertEqual(list(SOME.cells), [FEB_A, JAN_A, JAN_B])
        self.assertEqual(len(SOME), 3)
        self.assertEqual(len(Cube(FLAT)), 0)
        self.assertEqual(str(RULED), "cube of 2 sides, 1 rules, 3 cells")
        with self.assertRaises(TypeError):
            iter(SOME)

    def test_in(self):
        self.assertIn(JAN_A, SOME)
        self.assertIn(JAN_A, SOME.with_cells({JAN_A: (0, 1)}))
        for value in odd_values() + [MAR_A, ("all", "a"), ["jan", "a"], ("jan",), ("jan", ["a"])]:
            self.assertNotIn(value, SOME)

    def test_nothing_is_shared(self):
        cells = {JAN_A: (4, 1)}
        cube = Cube(FLAT, (), cells)
        cells[JAN_A] = (5, 1)
        cube.cells[JAN_B] = (6, 1)
        cube.cells.clear()
        self.assertEqual(cube.cells, {JAN_A: (4, 1)})
        changes = {JAN_B: ONE, JAN_A: None}
        other = cube.with_cells(changes)
        changes.clear()
        self.assertEqual(other.cells, {JAN_B: ONE})
        self.assertEqual(cube.cells, {JAN_A: (4, 1)})
        self.assertEqual(cube.with_rules((GROWTH,)).rules, (GROWTH,))
        self.assertEqual(cube.rules, ())

    def test_equality(self):
        twin = Cube(Outline((TIME, SHOP)), (Rule(GROWTH.area, GROWTH.formula, 2),), dict(reversed(SOME.cells.items())))
        self.assertTrue(twin == RULED)
        self.assertFalse(twin != RULED)
        twin.answer(("all", "both"))
        self.assertTrue(twin == RULED)
        for other in odd_values() + [LOOP, RULED.with_cells({MAR_A: (0, 1)}), Cube(FLAT, (GROWTH,)), FLAT]:
            self.assertFalse(RULED == other)
            self.assertTrue(RULED != other)

    def test_wrong_arguments(self):
        for value in odd_values():
            if value is not FLAT:
                self.assert_raises(InvalidOutline, Cube, value, value, value)
            if value != ():
                self.assert_raises(InvalidRule, Cube, FLAT, value, value if value is not None else 1)
            if value is not GROWTH:
                self.assert_raises(InvalidRule, Cube, FLAT, (value,))
            if value is not None and value != {}:
                self.assert_raises(InvalidCells, Cube, FLAT, (), value)
            if value != ():
                self.assert_raises(InvalidRule, SOME.with_rules, value)
        self.assert_raises(InvalidRule, Cube, FLAT, [GROWTH])
        self.assert_raises(InvalidRule, Cube, FLAT, (Rule((None,), HERE),))
        self.assert_raises(InvalidRule, SOME.with_rules, (GROWTH, Rule((("jan",), ("jan",)), HERE)))
        for cells in ({("all", "a"): ONE}, {JAN_A: None}, {JAN_A: (1, 1001)}, {JAN_A: (10 ** 18, 1)}, {("jan",): ONE}):
            self.assert_raises(InvalidCells, Cube, FLAT, (), cells)

    def test_bounds(self):
        self.assertEqual(len(Cube(FLAT, (GROWTH,) * 30).rules), 30)
        self.assert_raises(InvalidRule, Cube, FLAT, (GROWTH,) * 31)
        self.assert_raises(InvalidRule, SOME.with_rules, (GROWTH,) * 31)
        names = tuple(f"n{index}" for index in range(30))
        wide = Outline((Side("p", names), Side("q", names), Side("r", names[:2])))
        places = list(wide.leaf_places())
        full = Cube(wide, (), {place: ONE for place in places[:300]})
        self.assertEqual(len(full), 300)
        self.assert_raises(InvalidCells, Cube, wide, (), {place: ONE for place in places[:301]})
        self.assertEqual(self.assert_raises(TooMany, full.with_cells, {places[300]: ONE}).limit, 300)
        self.assertEqual(len(full.with_cells({places[300]: ONE, places[0]: None})), 300)
        self.assertEqual(len(full.with_cells({place: None for place in places[:1000]})), 0)
        self.assert_raises(InvalidCells, full.with_cells, {place: None for place in places[:1001]})
        # A wrong change is told ahead of too many cells.
        self.assert_raises(InvalidCells, full.with_cells, {places[300]: ONE, places[301]: (2, 2)})
        self.assertEqual(len(full), 300)

    def test_with_cells(self):
        cube = SOME.with_cells({JAN_A: None, MAR_B: (0, 1), MAR_A: None})
        self.assertEqual(cube.cells, {FEB_A: (6, 1), JAN_B: (1, 2), MAR_B: (0, 1)})
        self.assertEqual(cube.answer(MAR_B), ("worth", (0, 1)))
        self.assertEqual(cube.answer(("mar", "both")), ("worth", (0, 1)))
        self.assertEqual(SOME.with_cells({}), SOME)
        for value in odd_values() + [{("all", "a"): None}, {JAN_A: 1}, {JAN_A: (1, 1001)}, {("jan", 1): None}]:
            if value != {}:
                self.assert_raises(InvalidCells, SOME.with_cells, value)

    def test_wrong_places(self):
        for value in odd_values() + [("jan",), ["jan", "a"], ("a", "jan"), ("jan", "a", "a"), ("jan", [])]:
            for call in (SOME.rule_at, SOME.answer, SOME.needs):
                self.assert_raises(InvalidPlace, call, value)


class WhichRule(unittest.TestCase):
    def test_rank_then_order(self):
        area = (None, None)
        cube = Cube(FLAT, (Rule(area, number(1), 1), Rule(area, number(2), 3), Rule(area, number(3), 3),
                           Rule((("jan",), None), number(4), 99), Rule(area, number(5), 0)))
        self.assertEqual(cube.rule_at(("feb", "a")), 2)
        self.assertEqual(cube.answer(("feb", "a")), ("worth", (3, 1)))
        self.assertEqual(cube.rule_at(("jan", "a")), 3)
        self.assertEqual(cube.answer(("jan", "both")), ("worth", (4, 1)))

    def test_no_rule(self):
        self.assertIsNone(SOME.rule_at(("all", "both")))
        self.assertIsNone(RULED.rule_at(("all", "both")))
        self.assertEqual(RULED.rule_at(("all", "diff")), 0)

    def test_a_cell_at_a_place_that_a_rule_tells_is_not_told(self):
        cube = SOME.with_rules((Rule((("jan",), ("a",)), NOTHING),))
        self.assertEqual(cube.answer(JAN_A), ("nothing",))
        self.assertEqual(cube.answer(("jan", "both")), ("worth", (1, 2)))
        self.assertIn(JAN_A, cube)
        self.assertEqual(cube.cells[JAN_A], (4, 1))


class Opening(unittest.TestCase):
    def test_the_first_side_with_a_group_is_opened(self):
        self.assertEqual(SOME.needs(("all", "diff")), tuple((leaf, "diff") for leaf in TIME.leaves))
        self.assertEqual(SOME.needs(("jan", "diff")), (JAN_A, JAN_B))
        self.assertEqual(SOME.needs(JAN_A), ())

    def test_nothing_is_not_zero(self):
        empty = Cube(FLAT)
        self.assertEqual(empty.answer(("all", "both")), ("nothing",))
        self.assertEqual(Cube(FLAT, (), {JAN_A: (0, 1)}).answer(("all", "both")), ("worth", (0, 1)))

    def test_rules_beneath(self):
        self.assertEqual(RULED.answer(("feb", "diff")), ("worth", (3, 2)))
        self.assertEqual(RULED.answer(("jan", "diff")), ("nothing",))
        # The rule tells the group itself, by a step from a group, which leads nowhere.
        self.assertEqual(RULED.answer(("all", "diff")), ("nothing",))


class Operators(unittest.TestCase):
    def test_with_nothing(self):
        self.assertEqual(told(("plus", A, NOTHING)), ("worth", (4, 1)))
        self.assertEqual(told(("minus", NOTHING, A)), ("worth", (-4, 1)))
        self.assertEqual(told(("plus", NOTHING, NOTHING)), ("nothing",))
        self.assertEqual(told(("times", number(0), NOTHING)), ("nothing",))
        self.assertEqual(told(("over", NOTHING, number(0))), ("nothing",))
        self.assertEqual(told(("over", number(0), NOTHING)), ("nothing",))

    def test_division_by_zero_refuses_with_the_place_that_is_read(self):
        self.assertEqual(told(("over", A, number(0))), ("refused", ("zero", ("jan", "diff"))))
        self.assertEqual(told(("sum", "time", ("leaves",), ("over", A, ("minus", A, A))), ("all", "diff")),
                         ("refused", ("zero", ("all", "diff"))))
        self.assertEqual(told(("over", number(0), number(0))), ("refused", ("zero", ("jan", "diff"))))

    def test_refusals_are_passed_on(self):
        cube = telling(("over", number(1), number(0)), (("feb",), ("a",)))
        for place in (FEB_A, ("feb", "both"), ("all", "a"), ("all", "both")):
            self.assertEqual(cube.answer(place), ("refused", ("zero", FEB_A)))
        self.assertEqual(cube.answer(("jan", "both")), ("worth", (9, 2)))
        self.assertEqual(cube.needs(("all", "both")), (("jan", "both"), ("feb", "both")))

    def test_both_operands_are_read_the_left_one_first(self):
        cells = {JAN_A: ONE}
        cube = Cube(FLAT, (Rule((("jan",), ("b",)), ("over", number(1), number(0)), 1),
                           Rule((("feb",), ("b",)), ("over", number(1), number(0)), 1),
                           Rule((None, ("diff",)), ("times", NOTHING, B)),
                           Rule((None, ("both",)), ("plus", B, to(("shop", "b"), ("time", "feb"))))), cells)
        self.assertEqual(cube.answer(("jan", "diff")), ("refused", ("zero", JAN_B)))
        self.assertEqual(cube.answer(("jan", "both")), ("refused", ("zero", JAN_B)))
        self.assertEqual(cube.needs(("jan", "both")), (JAN_B,))
        self.assertEqual(cube.answer(("mar", "both")), ("refused", ("zero", FEB_B)))
        self.assertEqual(cube.needs(("mar", "both")), (MAR_B, FEB_B))


class Moves(unittest.TestCase):
    def test_where_they_lead(self):
        step = ("at", (("shop", ("to", "a")), ("time", ("step", 1))))
        self.assertEqual(told(step), ("worth", (6, 1)))
        self.assertEqual(told(step, ("mar", "diff")), ("nothing",))
        self.assertEqual(told(step, ("all", "diff")), ("nothing",))
        self.assertEqual(telling(step).needs(("mar", "diff")), ())
        parent = ("at", (("shop", ("to", "a")), ("time", ("parent", "year"))))
        self.assertEqual(told(parent), ("worth", (10, 1)))
        self.assertEqual(told(parent, ("all", "diff")), ("nothing",))
        self.assertEqual(told(to(("shop", "a"), ("time", "mar"))), ("nothing",))
        self.assertEqual(telling(parent).needs(("jan", "diff")), (("all", "a"),))

    def test_a_move_may_lead_back(self):
        self.assertEqual(told(HERE), ("refused", ("ring", (("jan", "diff"),))))
        self.assertEqual(telling(HERE).needs(("jan", "diff")), (("jan", "diff"),))


class Tests(unittest.TestCase):
    def yes(self, test, cells=None):
        answer = told(("if", test, number(1), number(2)), cells=cells)
        return answer == ("worth", ONE)

    def test_comparisons(self):
        for one, other, below, same in ((number(1), number(2), True, False), (number(2), number(2), False, True),
                                        (number(2), number(1), False, False), (NOTHING, number(1), False, False),
                                        (number(1), NOTHING, False, False), (NOTHING, NOTHING, False, False),
                                        (number(-1, 2), number(-1, 3), True, False), (A, number(4), False, True)):
            self.assertIs(self.yes(("below", one, other)), below, (one, other))
            self.assertIs(self.yes(("same", one, other)), same, (one, other))

    def test_there(self):
        self.assertTrue(self.yes(("there", A)))
        self.assertFalse(self.yes(("there", NOTHING)))
        self.assertTrue(self.yes(("there", number(0))))
        self.assertTrue(self.yes(("there", A), {JAN_A: (0, 1)}))
        self.assertFalse(self.yes(("there", A), {}))

    def test_both_either_not(self):
        yes, no = ("there", number(1)), ("there", NOTHING)
        for one in (yes, no):
            self.assertIs(self.yes(("not", one)), one is no)
            for other in (yes, no):
                self.assertIs(self.yes(("both", one, other)), one is yes and other is yes)
                self.assertIs(self.yes(("either", one, other)), one is yes or other is yes)

    def test_tests_within_operators(self):
        yes, no = ("there", number(1)), ("there", NOTHING)
        for one in (yes, no):
            for other in (yes, no):
                for word, both in (("both", one is yes and other is yes), ("either", one is yes or other is yes)):
                    choice = ("if", (word, one, other), number(1), number(2))
                    self.assertEqual(told(("plus", number(10), choice)), ("worth", (11 if both else 12, 1)))
                    inner = ("if", (word, ("same", choice, number(1)), no), number(1), number(2))
                    expected = 1 if word == "either" and both else 2
                    self.assertEqual(told(("minus", number(10), inner)), ("worth", (10 - expected, 1)))

    def test_what_is_not_read(self):
        yes, no = ("there", number(1)), ("there", NOTHING)
        wrong = ("over", number(1), number(0))
        refused = ("refused", ("zero", ("jan", "diff")))
        self.assertTrue(self.yes(("either", yes, ("there", wrong))))
        self.assertFalse(self.yes(("both", no, ("there", wrong))))
        self.assertEqual(told(("if", yes, number(1), wrong)), ("worth", ONE))
        self.assertEqual(told(("if", no, wrong, number(1))), ("worth", ONE))
        for test in (("either", no, ("there", wrong)), ("both", yes, ("there", wrong)), ("same", NOTHING, wrong),
                     ("below", wrong, NOTHING), ("there", wrong), ("not", ("there", wrong))):
            self.assertEqual(told(("if", test, number(1), number(1))), refused, test)
        cube = telling(("if", ("there", A), number(1), B))
        self.assertEqual(cube.needs(("jan", "diff")), (JAN_A,))
        self.assertEqual(cube.needs(("mar", "diff")), (MAR_A, MAR_B))


class Folds(unittest.TestCase):
    def fold(self, word, span, place=("jan", "diff"), node=A, side="time"):
        return told((word, side, span, node), place)

    def test_spans(self):
        spans = {
            ("members", ("feb", "jan", "all")): (20, 1), ("leaves",): (4, 1), ("window", 1): (4, 1),
            ("window", 2): (4, 1), ("children", "year"): None, ("sofar", "year"): (4, 1)}
        for span, worth in spans.items():
            expected = ("nothing",) if worth is None else ("worth", worth)
            self.assertEqual(self.fold("sum", span), expected, span)
        at_mar = {("window", 1): None, ("window", 2): (6, 1), ("window", 30): (10, 1), ("sofar", "year"): (10, 1)}
        for span, worth in at_mar.items():
            expected = ("nothing",) if worth is None else ("worth", worth)
            self.assertEqual(self.fold("sum", span, ("mar", "diff")), expected, span)
        at_all = {("leaves",): (10, 1), ("children", "year"): (10, 1), ("window", 3): None, ("sofar", "year"): None}
        for span, worth in at_all.items():
            expected = ("nothing",) if worth is None else ("worth", worth)
            self.assertEqual(self.fold("sum", span, ("all", "diff")), expected, span)

    def test_spans_leave_weights_out(self):
        self.assertEqual(told(("sum", "shop", ("children", "less"), HERE)), ("worth", (9, 2)))
        self.assertEqual(told(("sum", "shop", ("leaves",), HERE)), ("worth", (9, 2)))
        self.assertEqual(told(("sum", "shop", ("children", "sums"), HERE)), ("nothing",))

    def test_sofar_takes_groups_ahead(self):
        side = Side("s", ("x", "y", "z"), (("h", (("top", (("g", (2, 1)), ("y", ONE), ("z", ONE))), ("g", (("x", ONE),)))),))
        outline = Outline((side, Side("t", ("n", "m"))))
        rule = Rule((None, ("m",)), ("sum", "s", ("sofar", "h"), to(("t", "n"))))
        cube = Cube(outline, (rule,), {("x", "n"): (3, 1), ("y", "n"): (10, 1), ("z", "n"): (100, 1)})
        self.assertEqual(cube.answer(("y", "m")), ("worth", (13, 1)))
        self.assertEqual(cube.needs(("y", "m")), (("g", "n"), ("y", "n")))
        self.assertEqual(cube.answer(("x", "m")), ("worth", (3, 1)))
        self.assertEqual(cube.answer(("g", "m")), ("nothing",))

    def test_first_and_last(self):
        members = ("members", ("mar", "jan", "feb"))
        self.assertEqual(self.fold("first", members), ("worth", (4, 1)))
        self.assertEqual(self.fold("last", members), ("worth", (6, 1)))
        self.assertEqual(self.fold("first", ("members", ("mar",))), ("nothing",))
        self.assertEqual(self.fold("last", ("window", 3), ("all", "diff")), ("nothing",))
        cube = telling(("first", "time", members, A))
        self.assertEqual(cube.needs(("jan", "diff")), (MAR_A, JAN_A))
        cube = telling(("last", "time", ("members", ("jan", "feb", "mar")), A))
        self.assertEqual(cube.needs(("jan", "diff")), (MAR_A, FEB_A))
        zero = telling(("first", "time", ("leaves",), A), cells={JAN_A: (0, 1), FEB_A: ONE})
        self.assertEqual(zero.answer(("all", "diff")), ("worth", (0, 1)))

    def test_folds_move_the_asked_place(self):
        inner = ("sum", "time", ("window", 2), A)
        self.assertEqual(told(("sum", "time", ("members", ("feb", "mar")), inner)), ("worth", (16, 1)))
        self.assertEqual(told(("plus", ("sum", "time", ("members", ("mar",)), A), A)), ("worth", (4, 1)))
        self.assertEqual(told(("plus", ("first", "time", ("members", ("feb",)), A), A)), ("worth", (10, 1)))
        step = ("at", (("shop", ("to", "a")), ("time", ("step", -1))))
        self.assertEqual(told(("sum", "time", ("members", ("feb", "mar")), step)), ("worth", (10, 1)))


class Rings(unittest.TestCase):
    def test_loop(self):
        ring = ("refused", ("ring", (("jan", "b"), ("jan", "both"))))
        self.assertEqual(LOOP.answer(JAN_B), ring)
        self.assertEqual(LOOP.answer(("jan", "both")), ring)
        self.assertEqual(LOOP.answer(("all", "both")), ring)
        self.assertEqual(LOOP.answer(("jan", "diff")), ring)
        self.assertEqual(LOOP.answer(JAN_A), ("worth", (4, 1)))
        self.assertEqual(LOOP.needs(("jan", "both")), (JAN_A, JAN_B))
        self.assertEqual(LOOP.needs(JAN_B), (("jan", "both"),))
        self.assertEqual(LOOP.needs(("all", "both")), (("jan", "both"),))

    def test_the_same_whichever_place_is_asked_first(self):
        places = list(FLAT.places())
        expected = {place: LOOP.answer(place) for place in places}
        for first in places:
            cube = Cube(FLAT, LOOP.rules, LOOP.cells)
            cube.answer(first)
            self.assertEqual({place: cube.answer(place) for place in places}, expected)

    def test_two_rings_from_one_place(self):
        cube = Cube(FLAT, (Rule((("jan",), ("a", "b")), HERE), Rule((("feb",), ("a", "b")), HERE),
                           Rule((None, ("both",)), ("plus", to(("shop", "b"), ("time", "feb")), A))))
        self.assertEqual(cube.answer(("jan", "both")), ("refused", ("ring", (FEB_B,))))
        self.assertEqual(cube.needs(("jan", "both")), (FEB_B,))

    def test_a_place_that_is_not_read_makes_no_ring(self):
        cube = telling(("if", ("there", A), A, HERE))
        self.assertEqual(cube.answer(("jan", "diff")), ("worth", (4, 1)))
        self.assertEqual(cube.answer(("mar", "diff")), ("refused", ("ring", (("mar", "diff"),))))
        self.assertEqual(cube.needs(("mar", "diff")), (MAR_A, ("mar", "diff")))

    def test_zero_ahead_of_a_ring(self):
        wrong = ("over", number(1), number(0))
        self.assertEqual(told(("plus", wrong, HERE)), ("refused", ("zero", ("jan", "diff"))))
        self.assertEqual(told(("plus", HERE, wrong)), ("refused", ("ring", (("jan", "diff"),))))


def power(exponent):
    """A formula of ten to a power up to 1000."""
    left = exponent
    parts = []
    while left > 0:
        parts.append(number(10 ** min(59, left)))
        left -= min(59, left)
    while len(parts) > 1:
        rest = [parts[-1]] if len(parts) % 2 else []
        parts = [("times", one, other) for one, other in zip(parts[::2], parts[1::2])] + rest
    return parts[0]


class Great(unittest.TestCase):
    def test_powers(self):
        self.assertEqual(told(power(999)), ("worth", (10 ** 999, 1)))
        self.assertEqual(told(power(1000)), ("refused", ("great", ("jan", "diff"))))
        self.assertEqual(told(("over", number(1), power(999))), ("worth", (1, 10 ** 999)))
        self.assertEqual(told(("over", ("over", number(1), power(999)), number(10))),
                         ("refused", ("great", ("jan", "diff"))))

    def test_plus_and_minus(self):
        far = to(("shop", "b"), ("time", "mar"))
        five = Rule((("mar",), ("b",)), ("times", number(5), power(999)))
        great = ("refused", ("great", ("jan", "diff")))
        for formula, expected in ((("plus", far, ("minus", far, number(1))), ("worth", (nines(1000), 1))),
                                  (("plus", far, far), great), (("minus", ("minus", NOTHING, far), far), great),
                                  (("minus", ("minus", number(1), far), far), ("worth", (-nines(1000), 1)))):
            cube = Cube(FLAT, (five, Rule((("jan",), ("diff",)), formula)))
            self.assertEqual(cube.answer(("jan", "diff")), expected)

    def cube(self, *formulas):
        """A cube in which the places with the months and a are told by formulas, one for each month."""
        rules = [Rule(((month,), ("a",)), formula) for month, formula in zip(TIME.leaves, formulas)]
        total = ("sum", "time", ("members", TIME.leaves), A)
        return Cube(FLAT, tuple(rules) + (Rule((("jan",), ("diff",)), total),))

    def test_an_opened_place_by_its_whole_sum(self):
        five = ("times", number(5), power(999))
        minus = ("minus", NOTHING, five)
        cube = self.cube(five, five, minus)
        self.assertEqual(cube.answer(("all", "a")), ("worth", (5 * 10 ** 999, 1)))
        self.assertEqual(cube.answer(("all", "both")), ("worth", (5 * 10 ** 999, 1)))
        self.assertEqual(cube.answer(("jan", "diff")), ("refused", ("great", ("jan", "diff"))))
        cube = self.cube(five, minus, five)
        self.assertEqual(cube.answer(("jan", "diff")), ("worth", (5 * 10 ** 999, 1)))
        cube = self.cube(five, five, NOTHING)
        self.assertEqual(cube.answer(("all", "a")), ("refused", ("great", ("all", "a"))))
        self.assertEqual(cube.answer(("all", "both")), ("refused", ("great", ("all", "both"))))
        cube = self.cube(five, ("minus", five, number(1)), NOTHING)
        self.assertEqual(cube.answer(("all", "a")), ("worth", (nines(1000), 1)))

    def test_the_bottom_counts(self):
        small = ("over", number(1), power(999))
        cube = self.cube(small, ("over", small, number(3)), NOTHING)
        self.assertEqual(cube.answer(("all", "a")), ("worth", (1, 75 * 10 ** 997)))
        cube = self.cube(small, number(1, 11), NOTHING)
        self.assertEqual(cube.answer(("all", "a")), ("refused", ("great", ("all", "a"))))

    def test_the_first_refusal_is_told(self):
        wrong = ("over", number(1), number(0))
        self.assertEqual(told(("plus", power(1000), wrong)), ("refused", ("great", ("jan", "diff"))))
        self.assertEqual(told(("plus", wrong, power(1000))), ("refused", ("zero", ("jan", "diff"))))
        self.assertEqual(told(("plus", HERE, power(1000))), ("refused", ("ring", (("jan", "diff"),))))


if __name__ == "__main__":
    unittest.main()
