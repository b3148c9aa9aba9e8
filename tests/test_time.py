import unittest

from sumstead.errors import InvalidCube, InvalidNumber, InvalidOperation, InvalidOutline, InvalidRule, TooMany, UnknownName
from sumstead.outline.outlines import Outline, Side
from sumstead.plain.cubes import Cube
from sumstead.plain.rules import Rule
from sumstead.time.rules import closing, opening, over_window, rise, span_of, to_date, with_more

from chance import Chance
from examples import FLAT, GROWTH, ONE, RULED, SOME, TIME, Checks, number, odd_values
from plainly import Plain, fraction

MONTHS = ("m1", "m2", "m3", "m4", "m5", "m6")
YEAR = Side("time", MONTHS, (("quarters", (("year", (("q1", ONE), ("q2", ONE))), ("q1", tuple((name, ONE) for name in MONTHS[:3])),
                                           ("q2", tuple((name, ONE) for name in MONTHS[3:])))),
                             ("odd", (("odds", (("m1", ONE), ("m3", (2, 1)), ("m5", ONE))),))))
KIND = Side("kind", ("flow", "stock", "told"), (("h", (("all", (("flow", ONE), ("stock", ONE))),)),))
PLACE = Side("place", ("x", "y"), (("h", (("both", (("x", ONE), ("y", ONE))),)),))
OUTLINE = Outline((YEAR, KIND, PLACE))
S = ("at", (("kind", ("to", "flow")),))
B = ("at", (("kind", ("to", "flow")), ("time", ("step", -1))))
AREA = (None, ("told",), None)
FUNCTIONS = (("to_date", to_date, ("quarters",)), ("over_window", over_window, (3,)), ("opening", opening, ()),
             ("closing", closing, ()), ("rise", rise, ()))


def made(function, more=(), outline=OUTLINE, time="time", kind="kind", goal="told", source="flow", **rank):
    return function(outline, time, *more, kind, goal, source, **rank)


class Spans(unittest.TestCase, Checks):
    def test_spans(self):
        for member, span, expected in (
                ("m4", ("members", ("m5", "year", "m1")), ("m5", "year", "m1")), ("year", ("children", "quarters"), ("q1", "q2")),
                                       ("m1", ("children", "quarters"), ()),
                ("odds", ("children", "quarters"), ()), ("year", ("leaves",), MONTHS), ("q2", ("leaves",), MONTHS[3:]),
                                       ("m2", ("leaves",), ("m2",)),
                ("m4", ("window", 3), ("m2", "m3", "m4")), ("m2", ("window", 30), ("m1", "m2")), ("m2", ("window", 1), ("m2",)),
                                       ("q1", ("window", 3), ()),
                ("m5", ("sofar", "quarters"), ("m4", "m5")), ("m4", ("sofar", "quarters"), ("m4",)),
                                       ("m5", ("sofar", "odd"), ("m1", "m3", "m5")),
                ("m2", ("sofar", "odd"), ()), ("q2", ("sofar", "quarters"), ()), ("year", ("sofar", "quarters"), ())):
            self.assertEqual(span_of(YEAR, member, span), expected, (member, span))

    def test_wrong_arguments(self):
        for value in odd_values():
            if value is not TIME:
                self.assert_raises(InvalidOutline, span_of, value, None, None)
            self.assert_raises(UnknownName, span_of, YEAR, value, None)
            self.assert_raises(InvalidOperation, span_of, YEAR, "m1", value)
        for span in (("members", ("m1", "m9")), ("members", ()), ("members", ("m1", "m1")), ("children", "months"), ("sofar", "h"),
                     ("window", 0), ("window", 31),
                     ("window", True), ("leaves", 1), ["leaves"], ("all",), ("members", tuple(f"n{n}" for n in range(31)))):
            self.assert_raises(InvalidOperation, span_of, YEAR, "m1", span)
        self.assert_raises(UnknownName, span_of, YEAR, "quarters", ("leaves",))
        self.assertEqual(span_of(YEAR, "m6", ("window", 30)), MONTHS)

    def test_as_the_second_reading_tells(self):
        for seed in range(150):
            chance = Chance(f"spans {seed}")
            outline = chance.outline()
            side = chance.one_of(outline.sides)
            plain = Plain(Cube(outline))
            for member in side.members:
                span = chance.span(side)
                self.assertEqual(span_of(side, member, span), tuple(plain.span(side, member, span)))


class Rules(unittest.TestCase, Checks):
    def test_formulas(self):
        self.assertEqual(made(to_date, ("quarters",)), Rule(AREA, ("sum", "time", ("sofar", "quarters"), S), 50))
        self.assertEqual(made(over_window, (3,)), Rule(AREA, ("sum", "time", ("window", 3), S), 50))
        self.assertEqual(made(opening), Rule(AREA, ("first", "time", ("leaves",), S), 50))
        self.assertEqual(made(closing), Rule(AREA, ("last", "time", ("leaves",), S), 50))
        self.assertEqual(made(rise), Rule(AREA, ("if", ("both", ("there", S), ("there", B)), ("minus", S, B), ("nothing",)), 50))
        for _, function, more in FUNCTIONS:
            self.assertEqual((made(function, more, rank=0).rank, made(function, more, rank=99).rank), (0, 99))
            self.assertTrue(made(function, more, source="all").suits(OUTLINE))
        # the moves ascend by the names of the sides, whichever is which
        rule = rise(FLAT, "time", "shop", "b", "diff")
        self.assertEqual(rule.formula[1][2][1], ("at", (("shop", ("to", "diff")), ("time", ("step", -1)))))
        rule = rise(FLAT, "shop", "time", "jan", "all")
        self.assertEqual(rule.formula[1][2][1], ("at", (("shop", ("step", -1)), ("time", ("to", "all")))))
        self.assertEqual(rule.area, (("jan",), None))

    def test_wrong_arguments_in_their_order(self):
        for name, function, more in FUNCTIONS:
            for value in odd_values():
                if value is not FLAT:
                    self.assert_raises(InvalidOutline, function, value, None, *[None] * len(more), None, None, None, rank=None)
                for wrong in (value, "months", "m1"):
                    error = self.assert_raises(UnknownName, function, OUTLINE, wrong, *[None] * len(more), None, None, None, rank=None)
                    self.assertIs(error.asked, wrong)
                    self.assert_raises(UnknownName, function, OUTLINE, "time", *more, wrong, None, None, rank=None)
                    if name == "to_date":
                        self.assertIs(self.assert_raises(UnknownName, function, OUTLINE, "time", wrong, None, None, None,
                                                         rank=None).asked, wrong)
                    self.assertIs(self.assert_raises(UnknownName, function, OUTLINE, "time", *more, "kind", wrong, None,
                                                     rank=None).asked, wrong)
                    self.assertIs(self.assert_raises(UnknownName, function, OUTLINE, "time", *more, "kind", "told", wrong,
                                                     rank=None).asked, wrong)
                if not (type(value) is int and 0 <= value <= 99):
                    self.assertIs(self.assert_raises(InvalidNumber, made, function, more, rank=value).given, value)
                if name == "over_window" and not (type(value) is int and 1 <= value <= 30):
                    self.assertIs(self.assert_raises(InvalidNumber, function, OUTLINE, "time", value, None, None, None).given, value)
            self.assertEqual(self.assert_raises(UnknownName, function, OUTLINE, "time", *more, "time", "m1", "m2").asked, "time")
            self.assertEqual(self.assert_raises(UnknownName, made, function, more, goal="all").asked, "all")
            self.assertEqual(self.assert_raises(UnknownName, made, function, more, source="told").asked, "told")
            self.assertEqual(self.assert_raises(UnknownName, made, function, more, goal="x").asked, "x")
            for rank in (-1, 100, True):
                self.assert_raises(InvalidNumber, made, function, more, rank=rank)
        for count in (0, 31, True, -1):
            self.assertEqual(self.assert_raises(InvalidNumber, made, over_window, (count,)).given, count)
        self.assertEqual(made(over_window, (30,)).formula[2], ("window", 30))
        self.assertEqual(made(over_window, (1,)).formula[2], ("window", 1))
        self.assert_raises(UnknownName, made, to_date, ("h",))

    def test_with_more(self):
        rule = to_date(FLAT, "time", "year", "shop", "b", "a")
        self.assertEqual(with_more(RULED, (rule, rule)).rules, (GROWTH, rule, rule))
        self.assertEqual(with_more(RULED, ()), RULED)
        self.assertEqual(RULED.rules, (GROWTH,))
        for value in odd_values():
            if value is not SOME:
                self.assert_raises(InvalidCube, with_more, value, None)
            if value != ():
                self.assert_raises(InvalidRule, with_more, SOME, value)
        foreign = made(opening)
        self.assert_raises(InvalidRule, with_more, SOME, (rule, foreign))
        self.assert_raises(InvalidRule, with_more, SOME, [rule])
        self.assertEqual(len(with_more(RULED, (rule,) * 29).rules), 30)
        self.assertEqual(self.assert_raises(TooMany, with_more, RULED, (rule,) * 30).limit, 30)
        self.assertEqual(self.assert_raises(TooMany, with_more, SOME, (rule,) * 31).limit, 30)
        self.assert_raises(InvalidRule, with_more, RULED, (rule,) * 30 + (foreign,))


def there(cube, time, kind, where):
    """What a place is told, as a fraction, or None."""
    answer = cube.answer((time, kind, where))
    return fraction(answer[1]) if answer[0] == "worth" else None


def total(worths):
    worths = [worth for worth in worths if worth is not None]
    return sum(worths) if worths else None


def told(cube, place):
    answer = cube.answer(place)
    return None if answer == ("nothing",) else fraction(answer[1])


def drawn_cube(chance, full=False):
    cells = {}
    for month in MONTHS:
        for kind in ("flow", "stock"):
            for where in ("x", "y"):
                if full or chance.random.random() < 0.6:
                    cells[(month, kind, where)] = chance.worth()
    return Cube(OUTLINE, (), cells)


class Told(unittest.TestCase, Checks):
    def test_sums_that_are_added_up_here(self):
        """[21.2], by sums of what is told at the source."""
        for seed in range(80):
            chance = Chance(f"time {seed}")
            source = chance.one_of(("flow", "stock", "all"))
            base = drawn_cube(chance)
            hierarchy, count = chance.one_of(YEAR.names), chance.random.randint(1, 7)
            cubes = {name: with_more(base, (made(function, {"to_date": (hierarchy,), "over_window": (count,)}.get(name, ()),
                                                 source=source),))
                     for name, function, _ in FUNCTIONS}
            for member in YEAR.members:
                for where in PLACE.members:
                    place = (member, "told", where)
                    self.assertEqual(told(cubes["to_date"], place),
                                     total(there(base, one, source, where) for one in span_of(YEAR, member, ("sofar", hierarchy))))
                    self.assertEqual(told(cubes["over_window"], place),
                                     total(there(base, one, source, where) for one in span_of(YEAR, member, ("window", count))))
                    row = [there(base, leaf, source, where) for leaf, _ in YEAR.under(member)]
                    row = [worth for worth in row if worth is not None]
                    self.assertEqual(told(cubes["opening"], place), row[0] if row else None)
                    self.assertEqual(told(cubes["closing"], place), row[-1] if row else None)
                    ahead = YEAR.step(member, -1)
                    now, then = there(base, member, source, where), None if ahead is None else there(base, ahead, source, where)
                    self.assertEqual(told(cubes["rise"], place), None if now is None or then is None else now - then)

    def test_the_first_and_the_last_leaves(self):
        cells = {("m1", "flow", "x"): (3, 1), ("m6", "flow", "x"): (5, 1)}
        cube = Cube(OUTLINE, (), cells)
        for function, more, expected in ((to_date, ("quarters",), {"m1": 3, "m3": 3, "m4": None, "m6": 5, "q1": None, "year": None}),
                                         (over_window, (2,), {"m1": 3, "m2": 3, "m3": None, "m5": None, "m6": 5}),
                                         (opening, (), {"m1": 3, "m2": None, "year": 3, "q2": 5}),
                                         (closing, (), {"m1": 3, "q1": 3, "year": 5, "q2": 5, "odds": 3}),
                                         (rise, (), {"m1": None, "m2": None, "m6": None, "year": None})):
            ruled = with_more(cube, (made(function, more),))
            for member, worth in expected.items():
                self.assertEqual(told(ruled, (member, "told", "x")), worth, (function, member))
            self.assertEqual(told(ruled, ("m2", "flow", "x")), None)

    def test_worths_of_0_are_there(self):
        cube = Cube(OUTLINE, (), {("m1", "flow", "x"): (0, 1), ("m2", "flow", "x"): (4, 1)})
        self.assertEqual(with_more(cube, (made(rise),)).answer(("m2", "told", "x")), ("worth", (4, 1)))
        self.assertEqual(with_more(cube, (made(opening),)).answer(("year", "told", "x")), ("worth", (0, 1)))

    def test_refusals(self):
        """What a source refuses is refused; places that are not asked do no harm."""
        broken = Rule((("m2",), ("flow",), None), ("over", number(1), number(0)), 60)
        cube = Cube(OUTLINE, (broken,), {("m1", "flow", "x"): ONE, ("m3", "flow", "x"): ONE})
        refused = ("refused", ("zero", ("m2", "flow", "x")))
        for function, more, member, expected in ((to_date, ("quarters",), "m1", ("worth", ONE)),
                                                 (to_date, ("quarters",), "m3", refused), (over_window, (1,), "m3", ("worth", ONE)),
                                                 (over_window, (2,), "m3", refused), (opening, (), "q1", ("worth", ONE)),
                                                 (closing, (), "q1", ("worth", ONE)),
                                                 (rise, (), "m3", refused), (rise, (), "m5", ("nothing",))):
            self.assertEqual(with_more(cube, (made(function, more),)).answer((member, "told", "x")), expected)

    def test_great_results(self):
        # Two worths of 1000 digits whose sum, or difference, has one more.
        nines = Rule((("m1", "m2", "m3"), ("flow",), None), self.nines(), 60)
        cube = Cube(OUTLINE, (), {})
        ruled = cube.with_rules(self.powers() + (nines,))
        place = ("m1", "flow", "x")
        self.assertEqual(len(str(ruled.answer(place)[1][0])), 1000)
        self.assertEqual(with_more(ruled, (made(to_date, ("quarters",)),)).answer(("m2", "told", "x")),
                         ("refused", ("great", ("m2", "told", "x"))))
        self.assertEqual(with_more(ruled, (made(over_window, (2,)),)).answer(("m3", "told", "x")),
                         ("refused", ("great", ("m3", "told", "x"))))
        self.assertEqual(with_more(ruled, (made(closing),)).answer(("q1", "told", "x"))[0], "worth")
        low = Rule((("m1",), ("flow",), None), ("minus", number(0), self.nines()), 61)
        self.assertEqual(with_more(ruled, (low, made(rise))).answer(("m2", "told", "x")), ("refused", ("great", ("m2", "told", "x"))))

    def powers(self):
        """Rules by which m4 at stock is 10 to the 50th, m5 10 to the 250th, m6 10 to the 999th."""
        four, five = ("at", (("kind", ("to", "stock")), ("time", ("to", "m4")))), ("at",
                (("kind", ("to", "stock")), ("time", ("to", "m5"))))

        def times(*parts):
            product = parts[0]
            for part in parts[1:]:
                product = ("times", product, part)
            return product
        return (Rule((("m4",), ("stock",), None), ("worth", (10 ** 50, 1))), Rule((("m5",), ("stock",), None),
                times(four, four, four, four, four)),
                Rule((("m6",), ("stock",), None), ("times", times(five, five, five),
                                                   times(four, four, four, four, ("worth", (10 ** 49, 1))))))

    def nines(self):
        """The formula of 10 to the 1000th less 1."""
        last = ("at", (("kind", ("to", "stock")), ("time", ("to", "m6"))))
        return ("plus", ("minus", ("times", number(9), last), number(1)), last)

    def test_21_3(self):
        for seed in range(60):
            chance = Chance(f"full time {seed}")
            source = chance.one_of(("flow", "stock", "all"))
            base = drawn_cube(chance, full=True)
            risen, windowed, dated = (with_more(base, (made(function, more, source=source),))
                                      for function, more in ((rise, ()), (over_window, (chance.random.randint(6, 30),)),
                                                             (to_date, ("quarters",))))
            for where in PLACE.members:
                worths = [there(base, month, source, where) for month in MONTHS]
                for at in range(1, 6):
                    rises = [told(risen, (month, "told", where)) for month in MONTHS[1:at + 1]]
                    self.assertEqual(sum(rises), worths[at] - worths[0])
                for at, month in enumerate(MONTHS):
                    self.assertEqual(told(windowed, (month, "told", where)), sum(worths[:at + 1]))
                for group, last in (("q1", "m3"), ("q2", "m6")):
                    self.assertEqual(told(dated, (last, "told", where)), there(base, group, source, where))

    def test_not_true_closing_of_a_sum_is_the_sum_of_closings(self):
        cells = {("m1", "flow", "x"): (5, 1), ("m1", "flow", "y"): (7, 1), ("m2", "flow", "x"): (6, 1)}
        cube = with_more(Cube(OUTLINE, (), cells), (made(closing),))
        self.assertEqual(cube.answer(("q1", "told", "both")), ("worth", (6, 1)))
        self.assertEqual([cube.answer(("q1", "told", where))[1] for where in ("x", "y")], [(6, 1), (7, 1)])

    def test_groups_of_other_weights_are_not_told_by_to_date(self):
        """The weight 1 of [21.3] is needed."""
        base = drawn_cube(Chance("odd"), full=True).with_cells({("m3", "flow", "x"): (1, 1)})
        dated = with_more(base, (made(to_date, ("odd",)),))
        self.assertNotEqual(told(dated, ("m5", "told", "x")), there(base, "odds", "flow", "x"))


if __name__ == "__main__":
    unittest.main()
