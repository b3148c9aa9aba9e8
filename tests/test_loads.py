import unittest
from fractions import Fraction

from sumstead.base.worths import is_cell_worth, worth_text
from sumstead.errors import InvalidCube, InvalidNumber, InvalidOperation, InvalidOutline, InvalidPlace, Refused, TooMany
from sumstead.load import loads
from sumstead.load.loads import Ledger, Load
from sumstead.outline.outlines import Outline, Side
from sumstead.plain.cubes import Cube
from sumstead.plain.weights import is_clean, leaf_weights

from chance import Chance
from examples import FLAT, LOOP, ONE, RULED, SOME, Checks, odd_values
from plainly import fraction, pair
from test_line import wide

JAN_A, JAN_B, FEB_A, MAR_A = ("jan", "a"), ("jan", "b"), ("feb", "a"), ("mar", "a")
TOP = ("all", "both")


def load(*rows, fields=(0, 1), worth_field=2, outline=FLAT):
    return Load(outline, fields, worth_field, rows)


class Loads(unittest.TestCase, Checks):
    def test_constants(self):
        self.assertEqual((loads.MAX_FIELDS, loads.MAX_ROWS, loads.MAX_LOADS), (12, 200, 20))

    def test_rows_that_are_let(self):
        rows = (("jan", "a", "5"), ("feb", "b", "-1/2", "more"), ("jan", "a", "1/3"))
        one = load(*rows)
        self.assertEqual((one.outline, one.fields, one.worth_field, one.rows), (FLAT, (0, 1), 2, rows))
        self.assertEqual(one.entries, ((0, JAN_A, (5, 1)), (1, ("feb", "b"), (-1, 2)), (2, JAN_A, (1, 3))))
        self.assertEqual((one.refused, one.totals), ((), {("feb", "b"): (-1, 2), JAN_A: (16, 3)}))
        self.assertEqual(list(one.totals), [("feb", "b"), JAN_A])
        one.totals.clear()
        self.assertEqual(len(one.totals), 2)
        self.assertRaises(TypeError, iter, one)
        empty = load()
        self.assertEqual((empty.rows, empty.entries, empty.refused, empty.totals), ((), (), (), {}))

    def test_maps(self):
        one = load(("7", "x", "a"), fields=("mar", 2), worth_field=0)
        self.assertEqual(one.entries, ((0, MAR_A, (7, 1)),))
        one = load(("7",), ("8", "9"), fields=("mar", "a"), worth_field=0)
        self.assertEqual(one.totals, {MAR_A: (15, 1)})
        # one field can name the leaves of two sides, or a leaf and the worth
        outline = Outline((Side("p", ("a", "b")), Side("q", ("b", "a"))))
        self.assertEqual(load(("a", "3"), fields=(0, 0), worth_field=1, outline=outline).entries, ((0, ("a", "a"), (3, 1)),))
        row = ("",) * 11 + ("jan",)
        self.assertEqual(load(row, fields=(11, "a"), worth_field=11).refused, ((0, ("worth", "jan")),))

    def test_blanks_at_both_ends(self):
        self.assertEqual(load(("  jan", "a  ", "   2/4 ")).entries, ((0, JAN_A, (1, 2)),))
        for row, reason in (((" j an ", "a", "1"), ("unknown", "time", "j an")), (("jan", "  both ", "1"), ("group", "shop", "both")),
                            (("jan", "a", " 1 /2 "), ("worth", "1 /2")), (("   ", "a", "1"), ("unknown", "time", ""))):
            self.assertEqual(load(row).refused, ((0, reason),))

    def test_reasons(self):
        nines = "9" * 18
        for row, reason in (((), ("short", 0)), (("jan",), ("short", 1)), (("jan", "a"), ("short", 2)),
                            (("x",), ("unknown", "time", "x")), (("all",), ("group", "time", "all")),
                            (("Jan", "a", "1"), ("unknown", "time", "Jan")), (("a", "jan", "1"), ("unknown", "time", "a")),
                            (("jan", "c", "x"), ("unknown", "shop", "c")),
                            (("jan", "diff", "x"), ("group", "shop", "diff")), (("jan", "both"), ("group", "shop", "both")),
                            (("x", "y", "z"), ("unknown", "time", "x")),
                            (("all", "y", "z"), ("group", "time", "all")), (("jan", "a", ""), ("worth", "")),
                            (("jan", "a", "nothing"), ("worth", "nothing")),
                            (("jan", "a", "01"), ("worth", "01")), (("jan", "a", "1.5"), ("worth", "1.5")),
                            (("jan", "a", "1/0"), ("worth", "1/0")), (("jan", "a", "-0"), ("worth", "-0")),
                            (("jan", "a", nines + "0"), ("worth", nines + "0")), (("jan", "a", "1/1001"), ("worth", "1/1001")),
                            (("jan", "a", "1" * 61), ("worth", "1" * 61)),
                            (("jan", "year", "1"), ("unknown", "shop", "year"))):
            self.assertEqual(load(row).refused, ((0, reason),), row)
            self.assertEqual(load(row).entries, ())
        for text, worth in ((nines, (10 ** 18 - 1, 1)), ("-" + nines + "/1000", (1 - 10 ** 18, 1000)), ("0", (0, 1)),
                            ("2/2002", (1, 1001)), ("4/2002", (2, 1001)), ("3/6", (1, 2))):
            self.assertEqual(load(("jan", "a", text)).entries, ((0, JAN_A, worth),) if is_cell_worth(worth) else ())
        # sides with a told leaf are not looked at; a worth is looked at last
        self.assertEqual(load(("z", "1"), fields=("jan", 0), worth_field=1).refused, ((0, ("unknown", "shop", "z")),))
        self.assertEqual(load(("z", "1"), fields=("jan", 5), worth_field=9).refused, ((0, ("short", 5)),))
        self.assertEqual(load(("a", "1"), fields=("jan", 0), worth_field=9).refused, ((0, ("short", 9)),))
        many = load(("jan", "a", "1"), ("x",), ("jan", "a", "2"), ())
        self.assertEqual((many.refused, [index for index, _, _ in many.entries]),
                         (((1, ("unknown", "time", "x")), (3, ("short", 0))), [0, 2]))

    def test_totals_that_are_no_cell_worths(self):
        one = load(("jan", "a", "9" * 18), ("jan", "a", "1"))
        self.assertEqual(one.totals, {JAN_A: (10 ** 18, 1)})
        zero = load(("jan", "a", "5/3"), ("jan", "a", "-5/3"))
        self.assertEqual(zero.totals, {JAN_A: (0, 1)})

    def test_wrong_arguments(self):
        for value in odd_values():
            if value is not FLAT:
                self.assert_raises(InvalidOutline, Load, value, None, None, None)
            if value not in ((1, 0), (2, 2)):
                self.assert_raises(InvalidOperation, Load, FLAT, value, None, None)
            if not (type(value) is int and 0 <= value <= 11):
                self.assert_raises(InvalidNumber, Load, FLAT, (0, 1), value, None)
            if value not in ((), ((), ())):
                self.assert_raises(InvalidOperation, Load, FLAT, (0, 1), 2, value)
            self.assertFalse(load() == value)
            self.assertTrue(load() != value)
        for fields in ((0,), (0, 1, 2), [0, 1], (0, 12), (-1, 0), (0, "both"), (0, "jan"), ("a", 0), (True, 0), (0, None), (0, "c")):
            self.assert_raises(InvalidOperation, Load, FLAT, fields, 2, ())
        for number in (-1, 12, True, None, "2"):
            self.assert_raises(InvalidNumber, Load, FLAT, (0, 1), number, ())
        self.assertEqual(load(worth_field=11, fields=(11, 11)).fields, (11, 11))
        row = ("jan", "a", "1")
        for rows in ([row], (list(row),), ("jan",), ((1, 2, 3),), (("jan", None),), (("jan\n", "a", "1"),), (("jan", "a", "1\t"),),
                     (("x" * 101,),), (("x",) * 13,), (row,) * 201):
            self.assert_raises(InvalidOperation, Load, FLAT, (0, 1), 2, rows)
        self.assertEqual(len(Load(FLAT, (0, 1), 2, (row,) * 200).entries), 200)
        self.assertEqual(load(("~" * 100,) * 12).refused, ((0, ("unknown", "time", "~" * 100)),))

    def test_equality(self):
        one = load(("jan", "a", "1"))
        self.assertEqual(one, load(("jan", "a", "1")))
        for other in (load(("jan", "a", "1 ")), load(("jan", "a", "1"), fields=("jan", 1)), load(("jan", "a", "1"), worth_field=1),
                      Load(SOME.outline, (0, 1), 2, ()), load(("a", "a", "1"), outline=Outline((Side("p", ("a",)), Side("q", ("a",)))))):
            self.assertNotEqual(one, other)


class Ledgers(unittest.TestCase, Checks):
    def test_a_new_ledger(self):
        ledger = Ledger(RULED)
        self.assertEqual((ledger.first, ledger.cube, ledger.loads, ledger.kept), (RULED, RULED, (), ()))
        for value in odd_values():
            if value is not SOME:
                self.assert_raises(InvalidCube, Ledger, value)

    def test_adding_and_setting(self):
        ledger = Ledger(SOME)
        one = load(("jan", "a", "1"), ("mar", "a", "2"), ("jan", "a", "1/2"))
        self.assertEqual(ledger.lay(one), 0)
        self.assertEqual(ledger.cube, SOME.with_cells({JAN_A: (11, 2), MAR_A: (2, 1)}))
        two = load(("mar", "a", "7"), ("jan", "b", "0"))
        self.assertEqual(ledger.lay(two, "set"), 1)
        self.assertEqual(ledger.cube.cells, {FEB_A: (6, 1), JAN_A: (11, 2), JAN_B: (0, 1), MAR_A: (7, 1)})
        self.assertEqual((ledger.loads, ledger.kept, ledger.first), (((one, "add"), (two, "set")), (0, 1), SOME))
        self.assertIsNone(ledger.take_back(0))
        self.assertEqual((ledger.kept, ledger.cube.cells[JAN_A], ledger.cube.cells[MAR_A]), ((1,), (4, 1), (7, 1)))
        self.assertIsNone(ledger.take_back(1))
        self.assertEqual((ledger.cube, ledger.kept), (SOME, ()))
        self.assertIsNone(ledger.again(1))
        self.assertIsNone(ledger.again(0))
        # in its old place, ahead of the one that sets
        self.assertEqual((ledger.kept, ledger.cube.cells[MAR_A], ledger.cube.cells[JAN_A]), ((0, 1), (7, 1), (11, 2)))
        self.assertEqual(ledger.lay(one, way="add"), 2)
        self.assertEqual(ledger.cube.cells[MAR_A], (9, 1))

    def test_the_way_down(self):
        ledger = Ledger(SOME)
        ledger.lay(load(("jan", "a", "1"), ("mar", "a", "2"), ("x",), ("jan", "a", "1/2")))
        self.assertEqual(ledger.down(JAN_A), ((("cell", JAN_A), ONE, (4, 1)), (("row", 0, 0), ONE, (1, 1)), (("row", 0, 3), ONE, (1, 2))))
        self.assertEqual(ledger.down(("jan", "diff")), ((("cell", JAN_A), ONE, (4, 1)), (("row", 0, 0), ONE, (1, 1)),
                                                        (("row", 0, 3), ONE, (1, 2)),
                                                       (("cell", JAN_B), (-1, 1), (1, 2))))
        self.assertEqual(ledger.down(("mar", "both")), ((("row", 0, 1), ONE, (2, 1)),))
        self.assertEqual(ledger.down(("mar", "b")), ())
        # what was set anew is not told any more, but the rows of the load that sets it are
        ledger.lay(load(("jan", "a", "7"), ("jan", "a", "8")), "set")
        ledger.lay(load(("jan", "a", "9")))
        self.assertEqual(ledger.down(JAN_A), ((("row", 1, 0), ONE, (7, 1)), (("row", 1, 1), ONE, (8, 1)), (("row", 2, 0), ONE, (9, 1))))
        ledger.take_back(1)
        self.assertEqual([source for source, _, _ in ledger.down(JAN_A)], [("cell", JAN_A), ("row", 0, 0), ("row", 0, 3), ("row", 2, 0)])
        self.assertEqual([source for source, _, _ in ledger.down(TOP)], [("cell", FEB_A), ("cell", JAN_A), ("row", 0, 0),
                ("row", 0, 3), ("row", 2, 0), ("cell", JAN_B), ("row", 0, 1)])

    def test_a_load_that_refuses_all_rows_sets_nothing(self):
        ledger = Ledger(SOME)
        ledger.lay(load(("jan", "a", "x")), "set")
        self.assertEqual((ledger.cube, ledger.down(JAN_A)), (SOME, ((("cell", JAN_A), ONE, (4, 1)),)))

    def test_places_that_are_not_clean(self):
        ledger = Ledger(RULED)
        self.assert_raises(InvalidOperation, ledger.down, ("jan", "diff"))
        self.assertEqual(len(ledger.down(TOP)), 3)
        self.assert_raises(InvalidOperation, Ledger(LOOP).down, TOP)
        for value in odd_values() + [("jan", "c")]:
            self.assertIs(self.assert_raises(InvalidPlace, ledger.down, value).message, value)

    def test_cells_that_would_be_none(self):
        nines = "9" * 18
        ledger = Ledger(SOME)
        error = self.assert_raises(Refused, ledger.lay, load(("mar", "b", nines), ("mar", "b", "1"), ("feb", "b", nines),
                                                             ("feb", "b", "1")))
        self.assertEqual(error.reason, ("great", ("feb", "b")))
        self.assertEqual((ledger.loads, ledger.kept, ledger.cube), ((), (), SOME))
        self.assertEqual(self.assert_raises(Refused, ledger.lay, load(("feb", "a", nines), ("jan", "a", "1/997"),
                                                                      ("mar", "a", "1"))).reason, ("great", FEB_A))
        self.assertEqual(self.assert_raises(Refused, ledger.lay, load(("jan", "a", "1/997"), ("jan", "a", "1/991"))).reason,
                         ("great", JAN_A))
        self.assertEqual(ledger.lay(load(("jan", "a", nines)), "set"), 0)
        # what is right by itself can be too much beside a load that is kept again
        ledger.take_back(0)
        self.assertEqual(ledger.lay(load(("jan", "a", "1"))), 1)
        self.assertEqual(self.assert_raises(Refused, ledger.again, 0).reason, ("great", JAN_A))
        self.assertEqual((ledger.kept, ledger.cube.cells[JAN_A]), ((1,), (5, 1)))
        # a load that is great on the way is refused, though a later one sets the cell anew
        ledger = Ledger(SOME)
        ledger.lay(load(("jan", "a", "-5")))
        ledger.lay(load(("jan", "a", nines)))
        ledger.lay(load(("jan", "a", "1")), "set")
        self.assertEqual(ledger.cube.cells[JAN_A], ONE)
        self.assertEqual(self.assert_raises(Refused, ledger.take_back, 0).reason, ("great", JAN_A))
        self.assertEqual(ledger.kept, (0, 1, 2))

    def test_the_least_leaf_place_of_the_first_load(self):
        nines = "9" * 18
        ledger = Ledger(SOME)
        ledger.lay(load(("mar", "a", "-1")))
        ledger.lay(load(("mar", "a", nines)))
        ledger.lay(load(("feb", "a", "1"), ("feb", "a", "-8")))
        ledger.take_back(0)
        error = self.assert_raises(Refused, ledger.lay, load(("feb", "a", nines), ("feb", "a", nines)))
        self.assertEqual(error.reason, ("great", FEB_A))
        ledger.lay(load(("mar", "a", "0")))
        ledger.again(0)
        ledger.lay(load(("feb", "a", nines)))
        # Without the third one February is great, by the last one.
        self.assertEqual(self.assert_raises(Refused, ledger.take_back, 2).reason, ("great", FEB_A))
        self.assertEqual(ledger.kept, (0, 1, 2, 3, 4))

    def test_wrong_arguments(self):
        ledger = Ledger(SOME)
        other = load(("a", "1"), fields=(0,), worth_field=1, outline=Outline((Side("p", ("a",)),)))
        for value in odd_values() + [other]:
            self.assertIs(self.assert_raises(InvalidOperation, ledger.lay, value, None).message, value)
            self.assert_raises(InvalidOperation, ledger.lay, value)
        for value in odd_values() + ["Add", "put", ("add",)]:
            self.assert_raises(InvalidOperation, ledger.lay, load(), value)
        ledger.lay(load())
        ledger.lay(load())
        ledger.take_back(0)
        for value in odd_values() + [2, -1, True, False, "0"]:
            if value != 1 or value is True:
                self.assertIs(self.assert_raises(InvalidNumber, ledger.take_back, value).given, value)
            if value != 0 or value is False:
                self.assertIs(self.assert_raises(InvalidNumber, ledger.again, value).given, value)
        self.assert_raises(InvalidNumber, ledger.take_back, 0)
        self.assert_raises(InvalidNumber, ledger.again, 1)
        self.assertEqual((len(ledger.loads), ledger.kept), (2, (1,)))

    def test_twenty_loads_and_one_more(self):
        ledger = Ledger(SOME)
        for number in range(20):
            self.assertEqual(ledger.lay(load(("jan", "a", "1"))), number)
        ledger.take_back(7)
        self.assertEqual(self.assert_raises(TooMany, ledger.lay, load(("jan", "a", "9" * 18))).limit, 20)
        self.assert_raises(InvalidOperation, ledger.lay, load(), "x")
        self.assertEqual((len(ledger.loads), ledger.cube.cells[JAN_A]), (20, (23, 1)))

    def test_three_hundred_cells_and_one_more(self):
        cube, places = wide(299)
        ledger = Ledger(cube)

        def rows(*seats):
            return Load(cube.outline, (0, 1), 2, tuple(places[seat] + ("1",) for seat in seats))
        self.assertEqual(ledger.lay(rows(299, 5)), 0)
        self.assertEqual(self.assert_raises(TooMany, ledger.lay, rows(300)).limit, 300)
        ledger.take_back(0)
        ledger.lay(rows(300))
        self.assertEqual(self.assert_raises(TooMany, ledger.again, 0).limit, 300)
        self.assertEqual((ledger.kept, len(ledger.cube)), ((1,), 300))
        # great ahead of too many
        great = Load(cube.outline, (0, 1), 2, (places[301] + ("9" * 18,), places[301] + ("1",)))
        self.assertEqual(self.assert_raises(Refused, ledger.lay, great).reason, ("great", places[301]))


def a_load(chance, outline):
    rows = []
    for _ in range(chance.random.randint(0, 6)):
        place = tuple(chance.one_of(side.members if chance.random.random() < 0.15 else side.leaves) for side in outline.sides)
        text = worth_text(chance.worth()) if chance.random.random() < 0.9 else chance.one_of(("x", "", "nothing", "9" * 18))
        row = tuple(" " * chance.random.randint(0, 1) + field for field in place + (text,))
        rows.append(row[:chance.random.randint(0, len(row))] if chance.random.random() < 0.05 else row)
    return Load(outline, tuple(range(len(outline))), len(outline), tuple(rows))


class Model:
    """A ledger, written plainly: for each leaf place the list of what stands in it."""

    def __init__(self, cube):
        self.cube, self.loads, self.kept = cube, [], []

    def stacks(self, kept):
        stacks = {place: [(("cell", place), fraction(worth))] for place, worth in self.cube.cells.items()}
        for number in kept:
            load, way = self.loads[number]
            rows = [(index, place, fraction(worth)) for index, place, worth in load.entries]
            if way == "set":
                for _, place, _ in rows:
                    stacks[place] = []
            for index, place, worth in rows:
                stacks.setdefault(place, []).append((("row", number, index), worth))
            for place in sorted({place for _, place, _ in rows}):
                total = sum((worth for _, worth in stacks[place]), Fraction(0))
                if abs(total.numerator) >= 10 ** 18 or total.denominator > 1000:
                    return ("great", place)
        return stacks


class Drawn(unittest.TestCase, Checks):
    def look(self, ledger, model):
        stacks = model.stacks(model.kept)
        cells = {place: pair(sum((worth for _, worth in stack), Fraction(0))) for place, stack in stacks.items()}
        self.assertEqual((ledger.cube, ledger.kept), (Cube(model.cube.outline, model.cube.rules, cells), tuple(model.kept)))
        for place in model.cube.outline.places():
            if not is_clean(model.cube, place):
                self.assert_raises(InvalidOperation, ledger.down, place)
                continue
            weights = leaf_weights(model.cube.outline, place)
            told = ledger.down(place)
            self.assertEqual(told, tuple((source, weights[leaf], pair(worth)) for leaf in sorted(weights) for source,
                                         worth in stacks.get(leaf, [])))
            # [22.4]
            total = sum((fraction(weight) * fraction(worth) for _, weight, worth in told), Fraction(0))
            answer = ledger.cube.answer(place)
            self.assertEqual(answer, ("nothing",) if told == () else ("worth", pair(total)))

    def test_drawn_ledgers(self):
        refused = 0
        for seed in range(80):
            chance = Chance(f"ledger {seed}")
            cube = chance.cube()
            ledger, model = Ledger(cube), Model(cube)
            for _ in range(14):
                numbers = range(len(model.loads))
                draw = chance.random.random()
                if draw < 0.5 or not model.loads:
                    one, way = a_load(chance, cube.outline), chance.one_of(("add", "add", "set"))
                    model.loads.append((one, way))
                    kept, call = model.kept + [len(model.loads) - 1], (ledger.lay, one, way)
                else:
                    number = chance.one_of(numbers)
                    kept = sorted(set(model.kept) ^ {number})
                    call = (ledger.take_back if number in model.kept else ledger.again, number)
                stacks = model.stacks(kept)
                if isinstance(stacks, tuple):
                    refused += 1
                    self.assertEqual(self.assert_raises(Refused, *call).reason, stacks)
                    if call[0] == ledger.lay:
                        model.loads.pop()
                else:
                    call[0](*call[1:])
                    model.kept = kept
                self.look(ledger, model)
                self.assertEqual(ledger.loads, tuple(model.loads))
        self.assertGreater(refused, 5)


if __name__ == "__main__":
    unittest.main()
