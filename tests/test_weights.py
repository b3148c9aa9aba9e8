import unittest

from sumstead.errors import InvalidCube, InvalidOperation, InvalidOutline, InvalidPlace
from sumstead.outline.outlines import Outline, Side
from sumstead.plain.cubes import Cube
from sumstead.plain.rules import Rule
from sumstead.plain.weights import answer_by, answer_by_leaves, is_clean, is_parting, leaf_weights, parting_cells

from examples import FLAT, HERE, LOOP, ONE, RULED, SHOP, SOME, TIME, Checks, number, odd_values, to

JAN_A, JAN_B = ("jan", "a"), ("jan", "b")
ALL_DIFF = ("all", "diff")


class LeafWeights(unittest.TestCase, Checks):
    def test_example(self):
        told = [leaf_weights(FLAT, ("jan", "diff")), answer_by_leaves(SOME, ALL_DIFF), is_clean(RULED, ("all", "both"))]
        self.assertEqual(told, [{('jan', 'a'): (1, 1), ('jan', 'b'): (-1, 1)}, ('worth', (19, 2)), True])

    def test_weights(self):
        side = Side("s", ("z", "x", "y"), (("h", (("top", (("g", (3, 2)), ("z", (2, 1)))), ("g", (("y", (1, 3)), ("x", ONE))))),))
        outline = Outline((side, SHOP))
        weights = leaf_weights(outline, ("top", "diff"))
        self.assertEqual(weights, {("x", "a"): (3, 2), ("x", "b"): (-3, 2), ("y", "a"): (1, 2), ("y", "b"): (-1, 2),
                                   ("z", "a"): (2, 1), ("z", "b"): (-2, 1)})
        self.assertEqual(list(weights), sorted(weights))
        self.assertEqual(leaf_weights(outline, ("x", "b")), {("x", "b"): ONE})
        weights.clear()
        self.assertEqual(len(leaf_weights(outline, ("top", "diff"))), 6)

    def test_errors(self):
        for value in odd_values():
            if value is not FLAT:
                self.assert_raises(InvalidOutline, leaf_weights, value, value)
            self.assert_raises(InvalidPlace, leaf_weights, FLAT, value)


class CleanPlaces(unittest.TestCase, Checks):
    def test_clean(self):
        for place, clean in ((("jan", "diff"), False), (ALL_DIFF, False), (("all", "both"), True), (JAN_A, True)):
            self.assertIs(is_clean(RULED, place), clean)
        deep = SOME.with_rules((Rule((("feb",), ("b",)), HERE),))
        for place, clean in ((("all", "both"), False), (("feb", "diff"), False), (("feb", "b"), False),
                             (("all", "a"), True), (("jan", "both"), True)):
            self.assertIs(is_clean(deep, place), clean)

    def test_answers_by_leaves(self):
        self.assertEqual(answer_by_leaves(SOME, ("mar", "both")), ("nothing",))
        self.assertEqual(answer_by_leaves(SOME, JAN_A), ("worth", (4, 1)))
        self.assertEqual(answer_by_leaves(SOME.with_cells({("mar", "b"): (0, 1)}), ("mar", "diff")), ("worth", (0, 1)))
        self.assert_raises(InvalidOperation, answer_by_leaves, RULED, ALL_DIFF)
        self.assert_raises(InvalidOperation, answer_by_leaves, LOOP, ("all", "both"))

    def test_errors(self):
        for call in (is_clean, answer_by_leaves):
            for value in odd_values():
                if value is not SOME:
                    self.assert_raises(InvalidCube, call, value, value)
                self.assert_raises(InvalidPlace, call, RULED, value)


class Orders(unittest.TestCase, Checks):
    def test_a_rule_at_a_group_is_not_told_the_same_in_each_order(self):
        rule = Rule((("all",), ("a",)), number(100))
        cube = SOME.with_rules((rule,))
        place = ("all", "both")
        self.assertEqual(answer_by(cube, place, (0, 1)), ("worth", (21, 2)))
        self.assertEqual(answer_by(cube, place, (1, 0)), ("worth", (201, 2)))
        self.assertEqual(answer_by(SOME, place, (1, 0)), SOME.answer(place))

    def test_a_place_that_a_formula_needs_is_opened_by_the_order_too(self):
        rules = (Rule((("all",), ("a",)), number(100)), Rule((("jan",), ("diff",)), to(("shop", "both"), ("time", "all"))))
        cube = SOME.with_rules(rules)
        self.assertEqual(answer_by(cube, ("jan", "diff"), (0, 1)), ("worth", (21, 2)))
        self.assertEqual(answer_by(cube, ("jan", "diff"), (1, 0)), ("worth", (201, 2)))

    def test_refusals(self):
        ring = ("refused", ("ring", (("jan", "b"), ("jan", "both"))))
        self.assertEqual(answer_by(LOOP, ("all", "both"), (0, 1)), ring)
        # Opened at the shops, it asks (all, a), and then (all, b), which a rule tells: it needs (all, both).
        self.assertEqual(answer_by(LOOP, ("all", "both"), (1, 0)), ("refused", ("ring", (("all", "b"), ("all", "both")))))

    def test_errors(self):
        for value in odd_values() + [[0, 1], (0,), (0, 0), (0, 2), (1, 2), (0, 1, 2), (False, True), (0, True), "01",
                                     (0, "1"), (-1, 0), ("time", "shop"), None]:
            if value != (1, 0):
                self.assert_raises(InvalidOperation, answer_by, SOME, JAN_A, value)
            if value is not SOME:
                self.assert_raises(InvalidCube, answer_by, value, value, value)
            self.assert_raises(InvalidPlace, answer_by, SOME, value, value)


class Parting(unittest.TestCase, Checks):
    def outline(self, *weights):
        rows = (("both", tuple(zip(("a", "b"), weights))),)
        return Outline((TIME, Side("shop", ("a", "b"), (("sums", rows), ("less", SHOP.hierarchies[1][1])))))

    def test_unlike_weights(self):
        other = self.outline(ONE, (2, 1))
        places = (("jan", "both"), ("all", "both"))
        value = parting_cells(FLAT, other, places)
        self.assertEqual(len(value), 1)
        self.assertEqual(list(value)[0][1], "b")
        self.assertIs(is_parting(FLAT, other, places, value), True)
        self.assertIsNone(parting_cells(FLAT, other, (("jan", "diff"), JAN_A, ("all", "b"))))
        self.assertIsNone(parting_cells(FLAT, FLAT, places))

    def test_whatever_is_right_is_accepted_and_nothing_else(self):
        other = self.outline(ONE, (2, 1))
        places = (JAN_A, ("jan", "both"))
        for value in ({JAN_B: ONE}, {JAN_B: (-3, 7)}):
            self.assertIs(is_parting(FLAT, other, places, value), True)
        for value in odd_values() + [None, {}, {JAN_A: ONE}, {JAN_B: (0, 1)}, {("feb", "b"): ONE}, {JAN_B: None},
                                     {JAN_B: ONE, JAN_A: ONE}, {("jan", "both"): ONE}, {JAN_B: (10 ** 18, 1)},
                                     ((JAN_B, ONE),), [JAN_B]]:
            self.assertIs(is_parting(FLAT, other, places, value), False, value)

    def test_a_leaf_that_one_lacks(self):
        less = Outline((TIME, Side("shop", ("a", "b"), (("sums", (("both", (("a", ONE),)),)), SHOP.hierarchies[1]))))
        for one, other in ((FLAT, less), (less, FLAT)):
            value = parting_cells(one, other, (("mar", "both"),))
            self.assertEqual(list(value), [("mar", "b")])
            self.assertIs(is_parting(one, other, (("mar", "both"),), {("mar", "b"): (0, 1)}), True)

    def test_weights_of_two_sides_can_make_up_for_each_other(self):
        def outline(first, second):
            sides = []
            for name, weight in (("p", first), ("q", second)):
                sides.append(Side(name, ("x", "y"), (("h", (("top", (("x", weight), ("y", weight))),)),)))
            return Outline(tuple(sides))
        one, other = outline((2, 1), (1, 2)), outline((1, 1), (1, 1))
        self.assertIsNone(parting_cells(one, other, (("top", "top"),)))
        self.assertIsNotNone(parting_cells(one, other, (("top", "x"),)))
        self.assertIsNotNone(parting_cells(one, outline((2, 1), (2, 1)), (("x", "y"), ("top", "top"))))

    def test_errors(self):
        unlike = Outline((TIME,))
        for value in odd_values():
            if value is not FLAT:
                self.assert_raises(InvalidOutline, parting_cells, value, value, value)
                self.assert_raises(InvalidOutline, parting_cells, FLAT, value, value)
                self.assert_raises(InvalidOutline, is_parting, value, value, value, value)
                self.assert_raises(InvalidOutline, is_parting, FLAT, value, value, value)
            self.assert_raises(InvalidPlace, parting_cells, FLAT, unlike, value)
            self.assert_raises(InvalidPlace, is_parting, FLAT, unlike, value, value)
            self.assert_raises(InvalidPlace, parting_cells, FLAT, FLAT, (JAN_A, value))
            self.assert_raises(InvalidOperation, is_parting, FLAT, unlike, (JAN_A,), value)
        self.assert_raises(InvalidOperation, parting_cells, FLAT, unlike, (JAN_A,))
        self.assertIsNone(parting_cells(FLAT, FLAT, (JAN_A,) * 100))
        self.assert_raises(InvalidPlace, parting_cells, FLAT, FLAT, (JAN_A,) * 101)
        self.assert_raises(InvalidPlace, parting_cells, FLAT, FLAT, ())
        self.assert_raises(InvalidPlace, parting_cells, FLAT, FLAT, [JAN_A])


class NotTrue(unittest.TestCase):
    """What [0.21] tells of these modules."""

    def test_the_quotient_of_sums_is_not_the_sum_of_quotients(self):
        rate = Rule((None, ("diff",)), ("over", to(("shop", "a")), to(("shop", "b"))))
        cells = {("jan", "a"): (4, 1), ("jan", "b"): (2, 1), ("feb", "a"): (9, 1), ("feb", "b"): (1, 1)}
        self.assertEqual(Cube(FLAT, (rate,), cells).answer(ALL_DIFF), ("worth", (13, 3)))
        leaves = Rule((TIME.leaves[1:2] + TIME.leaves[:1] + TIME.leaves[2:], ("diff",)), rate.formula)
        self.assertEqual(Cube(FLAT, (leaves,), cells).answer(ALL_DIFF), ("worth", (11, 1)))


if __name__ == "__main__":
    unittest.main()
