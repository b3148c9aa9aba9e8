import unittest

from sumstead.ask import sheets
from sumstead.ask.sets import is_question, members_of
from sumstead.ask.sheets import Sheet, with_own
from sumstead.errors import (InvalidCells, InvalidCube, InvalidName, InvalidNumber, InvalidOperation, InvalidOutline,
                             InvalidPlace, InvalidQuestion, InvalidRule, Refused, TooMany, UnknownName)
from sumstead.outline.outlines import Outline, Side
from sumstead.plain.cubes import Cube
from sumstead.plain.rules import Rule

from chance import Chance
from examples import FLAT, HERE, LOOP, NOTHING, ONE, RULED, SHOP, SOME, TIME, Checks, nines, number, odd_values, to

JAN = ("jan", "a")
ALL, LEAVES = ("all",), ("leaves",)
TIMES, SHOPS = ("time", ALL), ("shop", ALL)
WRONG = ("over", number(1), number(0))
A = to(("shop", "a"))


def ruled(many):
    return SOME.with_rules((Rule((("feb",), ("b",)), number(1)),) * many)


class OwnMembers(unittest.TestCase, Checks):
    def test_a_leaf_behind_all_and_a_rule_behind_all(self):
        cube = with_own(RULED, "shop", "twice", ("times", number(2), A), 7)
        side = cube.outline.side("shop")
        self.assertEqual(side.leaves, ("a", "b", "twice"))
        self.assertEqual(side.hierarchies, SHOP.hierarchies)
        self.assertEqual([side.parent("twice", name) for name in side.names], [None, None])
        self.assertEqual(cube.outline.sides[0], TIME)
        self.assertEqual(cube.rules, RULED.rules + (Rule((None, ("twice",)), ("times", number(2), A), 7),))
        self.assertEqual(cube.cells, SOME.cells)
        self.assertEqual([cube.answer((month, "twice")) for month in TIME],
                         [("worth", (8, 1)), ("worth", (12, 1)), ("nothing",), ("worth", (20, 1))])
        self.assertEqual(with_own(SOME, "time", "extra", NOTHING).rules, (Rule((("extra",), None), NOTHING, 0),))
        self.assertEqual(len(RULED.rules), 1)

    def test_other_places_as_before(self):
        for seed in range(60):
            chance = Chance(seed)
            cube = chance.cube()
            side = chance.one_of(cube.outline.sides)
            if any(str(("step", count)) in str((rule.formula,)) for rule in cube.rules for count in (1, 2)):
                continue
            other = with_own(cube, side.name, "own", chance.formula(cube.outline), chance.random.randint(0, 3))
            for place in cube.outline.places():
                self.assertEqual(other.answer(place), cube.answer(place), (seed, place))

    def test_a_rule_that_steps_on_can_come_to_it(self):
        cube = SOME.with_rules((Rule((("mar",), ("b",)), ("at", (("time", ("step", 1)),))),))
        self.assertEqual(cube.answer(("mar", "b")), ("nothing",))
        self.assertEqual(with_own(cube, "time", "more", number(9)).answer(("mar", "b")), ("worth", (9, 1)))

    def test_two_own_members_meet(self):
        for ranks, told in (((1, 0), 10), ((0, 1), 20), ((2, 2), 20)):
            cube = with_own(SOME, "shop", "s", number(10), ranks[0])
            cube = with_own(cube, "time", "t", number(20), ranks[1])
            self.assertEqual(cube.answer(("t", "s")), ("worth", (told, 1)))
            self.assertEqual([cube.answer(("jan", "s")), cube.answer(("t", "a"))],
                             [("worth", (10, 1)), ("worth", (20, 1))])

    def test_a_formula_can_name_the_own_member(self):
        cube = with_own(SOME, "shop", "own", to(("shop", "own")))
        self.assertEqual(cube.answer(("jan", "own")), ("refused", ("ring", (("jan", "own"),))))

    def test_then_errors(self):
        for name in ("a", "both", "diff"):
            self.assert_raises(InvalidOutline, with_own, ruled(30), "shop", name, to(("zone", "a")))
        self.assertEqual(with_own(SOME, "shop", "sums", number(1)).answer(("jan", "sums")), ("worth", ONE))
        self.assertEqual(with_own(SOME, "shop", "jan", number(1)).answer(("jan", "jan")), ("worth", ONE))
        for formula in (to(("shop", "c")), to(("zone", "a")), ("sum", "shop", ("children", "year"), HERE)):
            self.assert_raises(InvalidRule, with_own, SOME, "shop", "own", formula)
            self.assert_raises(InvalidRule, with_own, ruled(30), "shop", "own", formula)
        self.assertEqual(len(with_own(ruled(29), "shop", "own", A).rules), 30)
        self.assertEqual(self.assert_raises(TooMany, with_own, ruled(30), "shop", "own", A).limit, 30)

    def test_bounds_of_outlines(self):
        for many, kind in ((29, None), (30, InvalidOutline)):
            cube = Cube(Outline((Side("s", tuple(f"n{n}" for n in range(many))),)))
            if kind is None:
                self.assertEqual(len(with_own(cube, "s", "own", A[:1] + ((),)).outline.sides[0]), 30)
            else:
                self.assert_raises(kind, with_own, cube, "s", "own", HERE)
        names = tuple(f"n{n}" for n in range(30))
        sides = (Side("p", names[:26]), Side("q", names), Side("r", names[:25]))
        full = Cube(Outline(sides))
        self.assertEqual(full.outline.total, 19500)
        self.assert_raises(InvalidOutline, with_own, full, "p", "own", HERE)

    def test_errors_in_order(self):
        odd = odd_values()
        for value in odd:
            if value is not SOME:
                self.assert_raises(InvalidCube, with_own, value, value, value, value, value)
            self.assertIs(self.assert_raises(UnknownName, with_own, SOME, value, value, value, value).asked, value)
            self.assert_raises(InvalidName, with_own, SOME, "shop", value, value, value)
            self.assert_raises(InvalidRule, with_own, SOME, "shop", "a", value, value)
            if value not in (0, 1) or type(value) is bool:
                error = self.assert_raises(InvalidNumber, with_own, ruled(30), "shop", "a", to(("zone", "a")), value)
                self.assertIs(error.given, value)
        self.assert_raises(UnknownName, with_own, SOME, "jan", "own", HERE)
        self.assert_raises(InvalidNumber, with_own, SOME, "shop", "own", HERE, 100)
        self.assertEqual(with_own(SOME, "shop", "own", HERE, 99).rules[0].rank, 99)


class Sheets(unittest.TestCase, Checks):
    def test_constant(self):
        self.assertEqual(sheets.MAX_SHOWN, 2000)

    def test_a_table(self):
        sheet = Sheet(SOME, JAN, TIMES, ("shop", ("members", ("both", "diff", "b"))))
        self.assertEqual(sheet.cube, SOME)
        self.assertEqual((sheet.rows, sheet.columns), (("jan", "feb", "mar", "all"), ("both", "diff", "b")))
        expected = tuple(tuple(SOME.answer((row, column)) for column in sheet.columns) for row in sheet.rows)
        self.assertEqual(sheet.answers, expected)
        self.assertEqual(sheet.shown(3, 0), ("all", "both"))
        self.assertEqual(sheet.answer(3, 0), ("worth", (21, 2)))
        self.assertEqual(len(sheet), 12)
        self.assertEqual(list(sheet), [(row, column) for row in sheet.rows for column in sheet.columns])
        self.assertEqual(str(sheet), "sheet of 4 rows, 3 columns")
        turned = Sheet(SOME, JAN, ("shop", ALL), ("time", LEAVES))
        self.assertEqual(turned.shown(2, 1), ("feb", "both"))
        self.assertEqual(turned.answer(2, 1), ("worth", (6, 1)))

    def test_heads_by_each_kind_of_question(self):
        for question in (ALL, LEAVES, ("members", ("all", "jan")), ("children", "all"), ("under", "all"),
                         ("level", "year", 1), ("union", LEAVES, ALL), ("less", ALL, LEAVES), ("meet", ALL, LEAVES),
                         ("filter", ALL, ("there", HERE)), ("order", ALL, HERE, "down"), ("first", ALL, 2),
                         ("best", ALL, 2, HERE), ("members", ())):
            told = members_of(RULED, ("jan", "diff"), "time", question)
            sheet = Sheet(RULED, ("jan", "diff"), ("time", question), ("shop", ("members", ("diff", "a"))))
            self.assertEqual(sheet.rows, told[1])
            other = Sheet(RULED, ("jan", "diff"), ("shop", ("members", ("diff", "a"))), ("time", question))
            self.assertEqual(other.columns, told[1])
            self.assertEqual(list(zip(*other.answers)) if told[1] else [], list(sheet.answers))

    def test_questions_are_asked_at_the_place(self):
        there = ("time", ("filter", LEAVES, ("there", HERE)))
        shops = ("shop", ("members", ("a",)))
        self.assertEqual(Sheet(SOME, ("mar", "a"), there, shops).rows, ("jan", "feb"))
        self.assertEqual(Sheet(SOME, ("mar", "b"), there, shops).rows, ("jan",))

    def test_other_sides_stay(self):
        outline = Outline((TIME, SHOP, Side("unit", ("eur", "usd"))))
        cube = Cube(outline, (), {("jan", "a", "usd"): ONE, ("feb", "b", "eur"): (2, 1)})
        sheet = Sheet(cube, ("mar", "diff", "usd"), ("shop", LEAVES), ("time", LEAVES))
        self.assertEqual(sheet.shown(1, 0), ("jan", "b", "usd"))
        self.assertEqual(sheet.answers[0][0], ("worth", ONE))
        self.assertNotIn(("jan", "a", "eur"), sheet)
        self.assertEqual(Sheet(cube, ("mar", "diff", "usd"), ("unit", LEAVES), ("time", LEAVES)).shown(0, 1),
                         ("feb", "diff", "eur"))

    def test_left_out(self):
        rows, columns = ("time", ("members", ("mar", "feb", "jan"))), ("shop", ("members", ("b", "a")))
        whole = Sheet(SOME, JAN, rows, columns)
        self.assertEqual((len(whole), whole.rows), (6, ("mar", "feb", "jan")))
        part = Sheet(SOME, JAN, rows, columns, whole=False)
        self.assertEqual((part.rows, part.columns, len(part)), (("feb", "jan"), ("b", "a"), 4))
        self.assertEqual(part.answers, ((("nothing",), ("worth", (6, 1))), (("worth", (1, 2)), ("worth", (4, 1)))))
        self.assertNotIn(("mar", "a"), part)
        self.assertIn(("mar", "a"), whole)
        self.assert_raises(InvalidNumber, part.shown, 2, 0)
        part = Sheet(SOME, JAN, ("time", ("members", ("mar", "feb"))), columns, whole=False)
        self.assertEqual((part.rows, part.columns, part.answers), (("feb",), ("a",), ((("worth", (6, 1)),),)))
        part = Sheet(SOME, JAN, ("time", ("members", ("mar",))), columns, whole=False)
        self.assertEqual((part.rows, part.columns, part.answers, len(part)), ((), (), (), 0))
        zero = Cube(FLAT, (), {("mar", "b"): (0, 1)})
        self.assertEqual(Sheet(zero, JAN, rows, columns, whole=False).rows, ("mar",))
        refused = Sheet(LOOP, JAN, ("time", ("members", ("mar",))), ("shop", ALL), whole=False)
        self.assertEqual((refused.rows, refused.columns), (("mar",), ("b", "both", "diff")))

    def test_without_rows_or_columns(self):
        none = ("members", ())
        sheet = Sheet(SOME, JAN, ("time", none), SHOPS)
        self.assertEqual((sheet.rows, sheet.columns, sheet.answers, len(sheet)), ((), SHOP.members, (), 0))
        self.assertEqual(sheet.lines, ("  a  b  both  diff",))
        sheet = Sheet(SOME, JAN, TIMES, ("shop", none))
        self.assertEqual((sheet.rows, sheet.columns, sheet.answers, len(sheet)), (TIME.members, (), ((),) * 4, 0))
        self.assertEqual(sheet.lines, ("", "jan", "feb", "mar", "all"))
        self.assertEqual(Sheet(SOME, JAN, ("time", none), ("shop", none)).lines, ("",))
        for asked in ((("time", none), SHOPS), (TIMES, ("shop", none))):
            sheet = Sheet(SOME, JAN, *asked, whole=False)
            self.assertEqual((sheet.rows, sheet.columns, sheet.lines, list(sheet)), ((), (), ("",), []))
            self.assert_raises(InvalidNumber, sheet.answer, 0, 0)

    def test_lines(self):
        sheet = Sheet(SOME, JAN, TIMES, ("shop", ("members", ("both", "a", "b"))))
        self.assertEqual(sheet.lines, ("     both  a   b", "jan  9/2   4   1/2", "feb  6     6   -", "mar  -     -   -",
                                       "all  21/2  10  1/2"))
        cube = SOME.with_cells({("jan", "a"): (-10 ** 17, 7)}).with_rules(
            (Rule((("feb",), ("a",)), WRONG), Rule((None, ("b",)), to(("shop", "both"))),
             Rule((("mar",), ("a",)), ("times", ("worth", (10 ** 59, 1)), number(1)))))
        sheet = Sheet(cube, JAN, ("time", LEAVES), ("shop", ("members", ("a", "b"))))
        self.assertEqual(sheet.lines, (f"     a{' ' * 61}b", f"jan  -{10 ** 17}/7{' ' * 41}#ring",
                                       f"feb  #zero{' ' * 57}#zero", f"mar  {10 ** 59}  #ring"))

    def test_great_answers(self):
        power = number(nines(60))
        for _ in range(4):
            power = ("times", power, power)
        cube = SOME.with_rules((Rule((("jan",), ("a",)), ("times", power, number(nines(60)))),))
        sheet = Sheet(cube, JAN, ("time", ("members", ("jan",))), ("shop", LEAVES))
        self.assertEqual(sheet.answer(0, 0), ("refused", ("great", ("jan", "a"))))
        self.assertEqual(sheet.lines, ("     a       b", "jan  #great  1/2"))
        sheet = Sheet(cube.with_rules((Rule((None, ("a",)), power),)), JAN, ("time", LEAVES), ("shop", LEAVES))
        self.assertEqual(sheet.lines[1], f"jan  {nines(60) ** 16}  1/2")

    def test_two_thousand_places(self):
        names = tuple(f"n{n}" for n in range(30))
        long = Side("q", names[:29], tuple((f"h{h}", tuple(self.tree(f"g{h}x", names[:29]))) for h in range(3)))
        cube = Cube(Outline((Side("p", names[:25]), long)))
        at = ("n0", "n0")
        self.assertEqual(len(long), 89)
        sheet = Sheet(cube, at, ("p", ALL), ("q", ("first", ALL, 80)))
        self.assertEqual((len(sheet), len(list(sheet))), (2000, 2000))
        self.assertEqual(len(Sheet(cube, at, ("p", ALL), ("q", ("first", ALL, 80)), whole=False)), 0)
        # 23 * 87 is 2001.
        for whole in (True, False):
            asked = (("p", ("first", ALL, 23)), ("q", ("first", ALL, 87)))
            self.assertEqual(self.assert_raises(TooMany, Sheet, cube, at, *asked, whole=whole).limit, 2000)
        self.assert_raises(TooMany, Sheet, cube, at, ("q", ALL), ("p", ALL))

    def tree(self, letter, names):
        """Twenty groups: the top, and others with one leaf each."""
        groups = [f"{letter}{n}" for n in range(20)]
        yield groups[0], tuple((group, ONE) for group in groups[1:])
        for group, name in zip(groups[1:], names):
            yield group, ((name, ONE),)

    def test_indices(self):
        sheet = Sheet(SOME, JAN, TIMES, ("shop", LEAVES))
        for call in (sheet.shown, sheet.answer):
            for value in odd_values() + [4, 10 ** 60]:
                if value not in (0, 1) or type(value) is bool:
                    self.assertIs(self.assert_raises(InvalidNumber, call, value, value).given, value)
                    self.assertIs(self.assert_raises(InvalidNumber, call, 0, value).given, value)
            self.assertEqual(self.assert_raises(InvalidNumber, call, 3, 2).given, 2)
            self.assertEqual(self.assert_raises(InvalidNumber, call, 4, -1).given, 4)

    def test_with_cells(self):
        rows, columns = ("time", ("order", LEAVES, HERE, "down")), ("shop", ("filter", ALL, ("there", HERE)))
        sheet = Sheet(SOME, ("jan", "b"), rows, columns, whole=False)
        self.assertEqual((sheet.rows, sheet.columns), (("jan", "feb"), ("a", "b", "both", "diff")))
        changes = {("mar", "b"): (9, 1), ("jan", "a"): None}
        other = sheet.with_cells(changes)
        self.assertEqual(other, Sheet(SOME.with_cells(changes), ("jan", "b"), rows, columns, whole=False))
        self.assertEqual((other.rows, other.columns), (("mar", "jan", "feb"), ("b", "both", "diff")))
        self.assertEqual(sheet.with_cells({}), sheet)
        self.assertEqual(sheet.rows, ("jan", "feb"))
        for value in odd_values():
            if type(value) is not dict or len(value):
                self.assert_raises(InvalidCells, sheet.with_cells, value)
        wrong = ("over", number(1), ("at", (("shop", ("to", "b")), ("time", ("to", "mar")))))
        sheet = Sheet(SOME, JAN, ("time", ("filter", LEAVES, ("there", wrong))), SHOPS)
        error = self.assert_raises(Refused, sheet.with_cells, {("mar", "b"): (0, 1)})
        self.assertEqual(error.reason, ("zero", ("jan", "a")))

    def test_too_many_with_other_cells(self):
        names = tuple(f"n{n}" for n in range(30))
        outline = Outline((Side("p", names), Side("q", names, tuple(
            (f"h{h}", tuple(self.tree(f"g{h}x", names))) for h in range(2)))))
        cube = Cube(outline)
        here = ("p", ("filter", ALL, ("there", ("at", (("q", ("to", "n0")),)))))
        sheet = Sheet(cube, ("n0", "n0"), here, ("q", ALL))
        self.assertEqual((len(sheet), len(outline.sides[1])), (0, 70))
        cells = {(name, "n0"): ONE for name in names}
        self.assert_raises(TooMany, sheet.with_cells, cells)
        del cells[("n29", "n0")]
        self.assertEqual(self.assert_raises(TooMany, sheet.with_cells, cells).limit, 2000)
        cells = {(name, "n0"): ONE for name in names[:28]}
        self.assertEqual(len(sheet.with_cells(cells)), 1960)
        many = {(one, other): ONE for one in names for other in names[:11]}
        self.assertEqual(self.assert_raises(TooMany, sheet.with_cells, many).limit, 300)

    def test_unlike(self):
        sheet = Sheet(SOME, JAN, ("time", ("members", ("feb", "all", "jan"))), ("shop", ("members", ("both", "a"))))
        other = sheet.with_cells({("feb", "a"): None, ("mar", "b"): ONE})
        self.assertEqual(sheet.unlike(other), (
            (("feb", "both"), ("worth", (6, 1)), ("nothing",)), (("feb", "a"), ("worth", (6, 1)), ("nothing",)),
            (("all", "both"), ("worth", (21, 2)), ("worth", (11, 2))), (("all", "a"), ("worth", (10, 1)), ("worth", (4, 1)))))
        self.assertEqual([row[::2] for row in other.unlike(sheet)], [row[:2] for row in sheet.unlike(other)])
        self.assertEqual(sheet.unlike(sheet), ())
        part = Sheet(other.cube, JAN, ("shop", ("members", ("a", "b"))), ("time", ("members", ("mar", "jan", "feb"))))
        self.assertEqual([row[0] for row in sheet.unlike(part)], [("feb", "a")])
        self.assertEqual([row[0] for row in part.unlike(sheet)], [("feb", "a")])
        strange = Sheet(Cube(Outline((SHOP, TIME))), ("a", "jan"), SHOPS, TIMES)
        self.assertEqual((strange.unlike(sheet), sheet.unlike(strange)), ((), ()))
        for value in odd_values():
            self.assert_raises(InvalidOperation, sheet.unlike, value)

    def test_members_and_equality(self):
        sheet = Sheet(SOME, JAN, TIMES, SHOPS)
        for value in odd_values() + [("jan",), ("jan", "a", "a"), (["jan"], "a"), "jan"]:
            self.assertFalse(value in sheet)
            self.assertFalse(sheet == value)
            self.assertTrue(sheet != value)
        self.assertTrue(("all", "diff") in sheet)
        self.assertEqual(sheet, Sheet(Cube(FLAT, (), SOME.cells), ("jan", "a"), TIMES, SHOPS, whole=True))
        for other in (Sheet(RULED, JAN, TIMES, SHOPS), Sheet(SOME, ("feb", "a"), TIMES, SHOPS),
                      Sheet(SOME, JAN, SHOPS, TIMES), Sheet(SOME, JAN, ("time", ("union", ALL, ALL)), SHOPS),
                      Sheet(SOME, JAN, TIMES, ("shop", ("union", ALL, ALL))), Sheet(SOME, JAN, TIMES, SHOPS, whole=False)):
            self.assertNotEqual(sheet, other)
            self.assertTrue(other == other)

    def test_errors_in_order(self):
        for value in odd_values():
            if value is not SOME:
                self.assert_raises(InvalidCube, Sheet, value, value, value, value, whole=value)
            self.assert_raises(InvalidPlace, Sheet, SOME, value, value, value, whole=value)
            self.assert_raises(InvalidQuestion, Sheet, SOME, JAN, value, value, whole=value)
            self.assert_raises(InvalidQuestion, Sheet, SOME, JAN, TIMES, value, whole=value)
            self.assert_raises(InvalidQuestion, Sheet, SOME, JAN, ("time", value), SHOPS)
            self.assert_raises(InvalidQuestion, Sheet, SOME, JAN, TIMES, (value, ALL))
            if type(value) is not bool:
                self.assert_raises(InvalidOperation, Sheet, SOME, JAN, TIMES, SHOPS, whole=value)
        for asked in (("time", ("under", "a")), ("zone", ALL), ["time", ALL], ("time", ALL, ALL), ("time",),
                      ("time", ("filter", ALL, ("there", to(("zone", "a")))))):
            self.assert_raises(InvalidQuestion, Sheet, SOME, JAN, asked, SHOPS)
            self.assert_raises(InvalidQuestion, Sheet, SOME, JAN, SHOPS, asked)
        self.assert_raises(InvalidQuestion, Sheet, SOME, JAN, TIMES, TIMES)
        self.assert_raises(InvalidQuestion, Sheet, SOME, JAN, TIMES, ("time", LEAVES), whole=1)
        single = Cube(Outline((TIME,)))
        self.assert_raises(InvalidQuestion, Sheet, single, ("jan",), TIMES, TIMES)

    def test_refused_questions(self):
        first = ("time", ("filter", ("members", ("mar",)), ("there", WRONG)))
        second = ("shop", ("order", ("members", ("diff",)), WRONG, "up"))
        for rows, columns, place in ((first, SHOPS, ("mar", "a")), (TIMES, second, ("jan", "diff")),
                                     (first, second, ("mar", "a"))):
            error = self.assert_raises(Refused, Sheet, SOME, JAN, rows, columns)
            self.assertEqual(error.reason, ("zero", place))
            self.assert_raises(InvalidOperation, Sheet, SOME, JAN, rows, columns, whole=0)
        error = self.assert_raises(Refused, Sheet, SOME, JAN, second, first)
        self.assertEqual(error.reason, ("zero", ("jan", "diff")))

    def test_random_sheets(self):
        seen = 0
        for seed in range(250):
            chance = Chance(seed)
            cube = chance.cube()
            if len(cube.outline) < 2:
                continue
            one, other = chance.random.sample(cube.outline.sides, 2)
            asked = [(side.name, chance.question(cube.outline, side)) for side in (one, other)]
            place = chance.one_of(cube.outline.places())
            whole = chance.one_of((True, False))
            if not all(is_question(question) for _, question in asked):
                continue
            told = [members_of(cube, place, side, question) for side, question in asked]
            refusals = [row[1] for row in told if row[0] == "refused"]
            if refusals:
                self.assertEqual(self.assert_raises(Refused, Sheet, cube, place, *asked, whole=whole).reason, refusals[0])
                continue
            seen += 1
            self.check(cube, place, asked, whole, [row[1] for row in told])
        self.assertGreater(seen, 60)

    def check(self, cube, place, asked, whole, heads):
        def at(row, column):
            moved = dict(zip(cube.outline.names, place))
            moved.update({asked[0][0]: row, asked[1][0]: column})
            return tuple(moved[name] for name in cube.outline.names)
        rows, columns = heads
        if not whole:
            rows = [row for row in rows if any(cube.answer(at(row, column)) != ("nothing",) for column in columns)]
            columns = [column for column in columns if any(cube.answer(at(row, column)) != ("nothing",) for row in rows)]
        sheet = Sheet(cube, place, *asked, whole=whole)
        self.assertEqual((sheet.rows, sheet.columns), (tuple(rows), tuple(columns)))
        self.assertEqual(list(sheet), [at(row, column) for row in rows for column in columns])
        for i, row in enumerate(rows):
            for j, column in enumerate(columns):
                self.assertEqual(sheet.shown(i, j), at(row, column))
                self.assertEqual(sheet.answer(i, j), cube.answer(at(row, column)))
        text = [[""] + list(columns)] + [[row] + [self.text(cube.answer(at(row, column))) for column in columns]
                                         for row in rows]
        widths = [max(len(row[at]) for row in text) for at in range(len(columns) + 1)]
        self.assertEqual(sheet.lines, tuple("  ".join(f"{entry:<{width}}" for entry, width in zip(row, widths)).rstrip()
                                            for row in text))

    def text(self, answer):
        if answer[0] == "worth":
            top, bottom = answer[1]
            return str(top) if bottom == 1 else f"{top}/{bottom}"
        return "-" if answer[0] == "nothing" else "#" + answer[1][0]


if __name__ == "__main__":
    unittest.main()
