import unittest

from sumstead.errors import InvalidNumber, InvalidOutline, InvalidPlace, InvalidRule
from sumstead.plain import rules
from sumstead.plain.rules import Rule

from examples import FLAT, GROWTH, HERE, NOTHING, SOME, TIME, Checks, odd_values, to


class Rules(unittest.TestCase, Checks):
    def test_constants(self):
        self.assertEqual((rules.MAX_RULES, rules.MAX_RANK), (30, 99))

    def test_properties(self):
        self.assertEqual(GROWTH.area, (None, ("diff",)))
        self.assertEqual(GROWTH.formula[0], "over")
        self.assertEqual(GROWTH.rank, 2)
        self.assertEqual(Rule((None,), HERE).rank, 0)
        self.assertEqual(str(GROWTH), "rule of rank 2, 3 nodes")
        with self.assertRaises(TypeError):
            iter(GROWTH)

    def test_bounds(self):
        many = tuple(sorted(f"m{n}" for n in range(91)))
        self.assertEqual(Rule((many[:90],), HERE).area, (many[:90],))
        self.assert_raises(InvalidRule, Rule, (many,), HERE)
        Rule((None,) * 5, HERE, 99)
        self.assert_raises(InvalidRule, Rule, (None,) * 6, HERE)
        self.assert_raises(InvalidRule, Rule, (), HERE)
        for rank in (100, -1, True, False, None, "1", (1,), [], {}, GROWTH, 10 ** 99):
            self.assertIs(self.assert_raises(InvalidNumber, Rule, (None,), HERE, rank).given, rank)

    def test_wrong_areas(self):
        for value in odd_values():
            if value != (None, None):
                self.assert_raises(InvalidRule, Rule, value, HERE)
            if value is not None:
                self.assert_raises(InvalidRule, Rule, (value,), HERE)
            self.assert_raises(InvalidRule, Rule, (("a", value),), HERE)
        for value in [[None], (("b", "a"),), (("a", "a"),), ((),), (["a"],), ("a",), (("A",),), ({},)]:
            self.assert_raises(InvalidRule, Rule, value, HERE)

    def test_wrong_formulas_and_the_order_of_errors(self):
        for value in odd_values() + [("there", HERE), [NOTHING]]:
            self.assert_raises(InvalidRule, Rule, (None,), value)
            self.assert_raises(InvalidRule, Rule, (None,), value, 100)
        self.assert_raises(InvalidRule, Rule, (), HERE, 100)

    def test_covers(self):
        self.assertIs(GROWTH.covers(("jan", "diff")), True)
        self.assertIs(GROWTH.covers(("jan", "both")), False)
        self.assertIs(GROWTH.covers(("nowhere", "diff")), True)
        self.assertIs(Rule((("a", "b"), ("c",)), HERE).covers(("b", "c")), True)
        for value in odd_values() + [("jan",), ("jan", "a", "b"), ["jan", "diff"], ("jan", None), ("jan", "A"),
                                     ("jan", []), "ja"]:
            self.assert_raises(InvalidPlace, GROWTH.covers, value)

    def test_suits(self):
        self.assertIs(GROWTH.suits(FLAT), True)
        self.assertIs(Rule((("all", "jan"), ("diff",)), HERE).suits(FLAT), True)
        for rule in (Rule((None,), HERE), Rule((None, None, None), HERE), Rule((("a",), None), HERE),
                     Rule((None, ("a", "jan")), HERE), Rule((None, None), to(("zone", "a")))):
            self.assertIs(rule.suits(FLAT), False)
        for value in odd_values():
            if value is not FLAT:
                self.assert_raises(InvalidOutline, GROWTH.suits, value)

    def test_equality(self):
        twin = Rule(GROWTH.area, GROWTH.formula, 2)
        self.assertTrue(twin == GROWTH)
        self.assertFalse(twin != GROWTH)
        for other in odd_values() + [Rule(GROWTH.area, GROWTH.formula), Rule((None, None), GROWTH.formula, 2),
                                     Rule(GROWTH.area, HERE, 2), SOME, TIME]:
            if other is not GROWTH:
                self.assertFalse(GROWTH == other)
                self.assertTrue(GROWTH != other)


if __name__ == "__main__":
    unittest.main()
