import unittest

from sumstead.errors import InvalidOutline, InvalidRule
from sumstead.plain import formulas
from sumstead.plain.formulas import does_suit, is_formula, nodes_in, sides_in

from examples import FLAT, GROWTH, HERE, NOTHING, SOME, TIME, Checks, nines, number, odd_values

JAN = ("at", (("time", ("to", "jan")),))


def deep(many):
    """A formula of this depth."""
    node = HERE
    for _ in range(many - 1):
        node = ("plus", node, HERE)
    return node


def row(many):
    """A formula of so many nodes, an odd number."""
    level = [HERE] * ((many + 1) // 2)
    while len(level) > 1:
        rest = [level[-1]] if len(level) % 2 else []
        level = [("plus", one, other) for one, other in zip(level[::2], level[1::2])] + rest
    return level[0]


def fold(node, word="sum", side="time", span=("leaves",)):
    return (word, side, span, node)


RIGHT = [
    HERE, NOTHING, number(0), number(-1, 3), number(nines(60), nines(60) - 1), JAN,
    ("at", (("shop", ("step", -30)), ("time", ("parent", "year")), ("zone", ("step", 30)))),
    ("plus", HERE, NOTHING), ("minus", HERE, HERE), ("times", HERE, number(2)), ("over", HERE, number(0)),
    ("if", ("below", HERE, number(1)), NOTHING, HERE), ("if", ("same", HERE, HERE), NOTHING, HERE),
    ("if", ("there", HERE), HERE, HERE), ("if", ("not", ("there", HERE)), HERE, HERE),
    ("if", ("both", ("there", HERE), ("not", ("there", HERE))), HERE, HERE),
    ("if", ("either", ("there", HERE), ("not", ("there", HERE))), HERE, HERE),
    fold(HERE), fold(HERE, "first"), fold(HERE, "last"), fold(fold(HERE)), ("plus", fold(fold(HERE)), fold(fold(HERE))),
    fold(HERE, span=("members", ("jan", "all"))), fold(HERE, span=("members", tuple(f"m{n}" for n in range(30)))),
    fold(HERE, span=("children", "year")), fold(HERE, span=("window", 1)), fold(HERE, span=("window", 30)),
    fold(HERE, span=("sofar", "year")),
]

WRONG = [
    ("nothing", 1), ("nothing", ()), ["nothing"], ("worth",), ("worth", 1), ("worth", (2, 2)), ("worth", (True, 1)),
    ("worth", (1, True)), ("worth", [1, 1]), ("worth", None), ("worth", (1, 1), 1), ("worth", (10 ** 60, 1)),
    ("worth", (-10 ** 60, 1)), ("worth", (1, 10 ** 60)), ("at",), ("at", []), ("at", None), ("at", (), ()), ("at", "x"),
    ("at", (("time",),)), ("at", (("time", "jan"),)), ("at", (("time", ("to",)),)), ("at", (("time", ("to", 1)),)),
    ("at", (("time", ("to", "JAN")),)), ("at", (("time", ["to", "jan"]),)), ("at", (["time", ("to", "jan")],)),
    ("at", (("time", ("go", "jan")),)), ("at", (("time", ("step", 0)),)), ("at", (("time", ("step", 31)),)),
    ("at", (("time", ("step", -31)),)), ("at", (("time", ("step", True)),)), ("at", (("time", ("step", "1")),)),
    ("at", (("time", ("parent", 1)),)), ("at", (("Time", ("step", 1)),)), ("at", (("time", ("step", 1, 1)),)),
    ("at", (("time", ("step", 1)), ("time", ("step", 2)))), ("at", (("time", ("step", 1)), ("shop", ("step", 1)))),
    ("at", ((None, ("step", 1)),)), ("at", (([], ("step", 1)),)), ("at", (("time", ([], 1)),)),
    ("plus",), ("plus", HERE), ("plus", HERE, HERE, HERE), ("plus", HERE, None), ("plus", ("there", HERE), HERE),
    ("plus", [HERE, HERE]), ("if", HERE, HERE, HERE), ("if", ("there", HERE), HERE), ("if", ("there", HERE),),
    ("if", ("below", HERE), HERE, HERE), ("if", ("not", HERE), HERE, HERE), ("if", ("both", HERE, HERE), HERE, HERE),
    ("if", ("same", HERE, ("there", HERE)), HERE, HERE), ("if", ("there", ("there", HERE)), HERE, HERE),
    ("if", True, HERE, HERE), ("if", ["there", HERE], HERE, HERE), ("there", HERE), ("below", HERE, HERE),
    ("not", ("there", HERE)), ("sum", "time", ("leaves",)), ("sum", "Time", ("leaves",), HERE),
    ("sum", "time", ("leaves",), HERE, HERE), ("sum", "time", ("leaves", 1), HERE), ("sum", "time", "leaves", HERE),
    ("sum", "time", ["leaves"], HERE), ("sum", "time", (), HERE), ("sum", "time", ("window", 0), HERE),
    ("sum", "time", ("window", 31), HERE), ("sum", "time", ("window", True), HERE), ("sum", "time", ("window",), HERE),
    ("sum", "time", ("members", ()), HERE), ("sum", "time", ("members", ("a", "a")), HERE),
    ("sum", "time", ("members", ["a"]), HERE), ("sum", "time", ("members", "a"), HERE),
    ("sum", "time", ("members", tuple(f"m{n}" for n in range(31))), HERE), ("sum", "time", ("members", ("A",)), HERE),
    ("sum", "time", ("children", 1), HERE), ("sum", "time", ("sofar", None), HERE), ("sum", "time", ("of", "a"), HERE),
    ("sum", "time", ("children", "a", "b"), HERE), ("sum", None, ("leaves",), HERE), ("sum", [], ("leaves",), HERE),
    fold(fold(fold(HERE))), fold(("plus", fold(("plus", HERE, fold(HERE))), HERE)), ("first", "time", ("leaves",), None),
    ("reckon", "plus"), ("next",), ("hold", "same"), ([], HERE), (None,), (1, 2), ("",), ("at", ((),)),
]


class Formulas(unittest.TestCase, Checks):
    def test_constants(self):
        self.assertEqual((formulas.MAX_NODES, formulas.MAX_DEPTH), (60, 8))

    def test_right_and_wrong_ones(self):
        for value in RIGHT:
            self.assertIs(is_formula(value), True, value)
        for value in WRONG + odd_values():
            self.assertIs(is_formula(value), False, value)
            self.assert_raises(InvalidRule, nodes_in, value)
            self.assert_raises(InvalidRule, sides_in, value)
            self.assertIs(does_suit(FLAT, value), False)

    def test_bounds(self):
        self.assertIs(is_formula(deep(8)), True)
        self.assertIs(is_formula(deep(9)), False)
        self.assertIs(is_formula(row(59)), True)
        sixty = ("if", ("not", ("there", row(29))), row(27), HERE)
        self.assertEqual(nodes_in(sixty), 60)
        self.assertIs(is_formula(("if", ("not", ("there", row(29))), row(27), fold(HERE))), False)
        self.assertIs(is_formula(row(61)), False)

    def test_depth_is_that_of_the_deepest_part(self):
        self.assertIs(is_formula(("plus", HERE, deep(7))), True)
        self.assertIs(is_formula(("plus", HERE, deep(8))), False)
        self.assertIs(is_formula(("if", ("not", ("there", deep(5))), deep(7), HERE)), True)
        self.assertIs(is_formula(("if", ("not", ("there", deep(6))), deep(7), HERE)), False)

    def test_very_deep_values_are_no_formulas(self):
        self.assertIs(is_formula(deep(5000)), False)

    def test_nodes(self):
        self.assertEqual(nodes_in(HERE), 1)
        self.assertEqual(nodes_in(GROWTH.formula), 3)
        self.assertEqual(nodes_in(("if", ("both", ("there", HERE), ("below", HERE, HERE)), fold(HERE), NOTHING)), 10)

    def test_sides(self):
        self.assertEqual(sides_in(HERE), ())
        self.assertEqual(sides_in(GROWTH.formula), ("shop", "time"))
        value = ("if", ("there", fold(JAN, side="zone")), fold(HERE, side="area"), JAN)
        self.assertEqual(sides_in(value), ("area", "time", "zone"))


class Suiting(unittest.TestCase, Checks):
    def test_what_suits(self):
        suit = [HERE, JAN, ("at", (("shop", ("to", "diff")), ("time", ("parent", "year")))), fold(HERE),
                ("at", (("shop", ("parent", "less")),)), fold(HERE, span=("members", ("all", "jan"))),
                fold(HERE, span=("sofar", "year")), fold(HERE, span=("children", "less"), side="shop"),
                fold(HERE, span=("window", 30)), ("if", ("there", JAN), JAN, NOTHING)]
        for value in suit:
            self.assertIs(does_suit(FLAT, value), True, value)

    def test_what_does_not_suit(self):
        wrong = [("at", (("zone", ("to", "a")),)), ("at", (("time", ("to", "a")),)), ("at", (("time", ("to", "year")),)),
                 ("at", (("time", ("parent", "sums")),)), ("at", (("time", ("parent", "all")),)),
                 ("at", (("zone", ("step", 1)),)), fold(HERE, side="zone"), fold(HERE, span=("members", ("jan", "a"))),
                 fold(HERE, span=("sofar", "sums")), fold(HERE, span=("children", "all")),
                 ("if", ("there", fold(HERE, side="zone")), HERE, HERE), ("plus", HERE, fold(("at", (("zone", ("step", 1)),))))]
        for value in wrong:
            self.assertIs(is_formula(value), True)
            self.assertIs(does_suit(FLAT, value), False, value)

    def test_wrong_outlines(self):
        for value in odd_values():
            if value is not FLAT:
                self.assert_raises(InvalidOutline, does_suit, value, HERE)
                self.assert_raises(InvalidOutline, does_suit, value, value)


if __name__ == "__main__":
    unittest.main()
