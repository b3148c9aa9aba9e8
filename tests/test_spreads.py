import itertools
import unittest
from fractions import Fraction

from sumstead.errors import InvalidCube, InvalidOperation, InvalidPlace, InvalidWorth, Refused, TooMany
from sumstead.outline.outlines import Outline, Side
from sumstead.plain.cubes import Cube
from sumstead.plain.rules import Rule
from sumstead.plain.weights import leaf_weights
from sumstead.write.spreads import exact_shares, is_spread, parts_of, spread

from chance import Chance
from examples import FLAT, ONE, RULED, SOME, Checks, nines, number, odd_values
from plainly import fraction, pair

TOP, ALL_A, DIFF, JAN = ("all", "both"), ("all", "a"), ("all", "diff"), ("jan", "a")
EVEN, OWN = ("even",), ("own",)
NAMES = tuple(f"n{n}" for n in range(30))


def line(many, weights=None, name="s"):
    """An outline of one side: leaves n0, n1, .. below one group."""
    leaves = NAMES[:many]
    told = weights or [ONE] * many
    return Outline((Side(name, leaves, (("h", (("top", tuple(zip(leaves, told))),)),)),))


def whole(*numbers):
    """The changes of a line of leaves."""
    return {(name,): None if one is None else (one, 1) for name, one in zip(NAMES, numbers)}


def parts(*numbers):
    return ("parts", {(name,): one if isinstance(one, tuple) else (one, 1) for name, one in zip(NAMES, numbers)})


def floor_to(share, unit):
    return share // unit * unit


def first_spread(shares, total, unit):
    """A second first spread, by fractions; shares in order, None for the part 0."""
    told = [None if share is None else floor_to(share, unit) for share in shares]
    left = total - sum(one for one in told if one is not None)
    while left:
        rests = [(share - one, -at) for at, (share, one) in enumerate(zip(shares, told)) if one is not None and one <= share]
        at = -max(rests)[1]
        told[at] += unit
        left -= unit
    return told


class Parts(unittest.TestCase, Checks):
    def test_ways(self):
        self.assertEqual(parts_of(SOME, ALL_A, EVEN), {("feb", "a"): ONE, JAN: ONE, ("mar", "a"): ONE})
        self.assertEqual(parts_of(SOME, ALL_A, OWN), {("feb", "a"): (6, 1), JAN: (4, 1), ("mar", "a"): (0, 1)})
        self.assertEqual(list(parts_of(SOME, ALL_A, OWN)), [("feb", "a"), JAN, ("mar", "a")])
        self.assertEqual(parts_of(SOME, ("all", "b"), ("like", "shop", "a")), {("feb", "b"): (6, 1), ("jan", "b"): (4, 1), ("mar", "b"): (0, 1)})
        self.assertEqual(parts_of(SOME, ("mar", "both"), ("like", "time", "jan")), {("mar", "a"): (4, 1), ("mar", "b"): (1, 2)})
        told = {JAN: (0, 1), ("mar", "a"): (2, 3)}
        self.assertEqual(parts_of(SOME, ALL_A, ("parts", told)), {("feb", "a"): (0, 1), JAN: (0, 1), ("mar", "a"): (2, 3)})
        self.assertEqual(parts_of(SOME, JAN, OWN), {JAN: (4, 1)})
        self.assertEqual(parts_of(SOME, TOP, OWN), {leaf: SOME.cells.get(leaf, (0, 1)) for leaf in leaf_weights(FLAT, TOP)})

    def test_cells_that_are_not_told(self):
        """A part is the cell, also at a place that a rule tells."""
        cube = SOME.with_rules((Rule((None, ("a",)), number(9)),))
        self.assertEqual(parts_of(cube, ("jan", "b"), ("like", "shop", "a")), {("jan", "b"): (4, 1)})

    def test_no_ways(self):
        wrong = [("even", 1), ("own", ()), ("like",), ("like", "shop"), ("like", "shop", "both"), ("like", "zone", "a"), ("like", "shop", "jan"),
                 ("like", "shop", "a", 1), ("like", ["shop"], "a"), ("like", "shop", ["a"]), ("parts",), ("parts", None), ("parts", []),
                 ("parts", {("jan", "b"): ONE}), ("parts", {ALL_A: ONE}), ("parts", {JAN: 1}), ("parts", {JAN: (-1, 1)}), ("parts", {JAN: None}),
                 ("parts", {JAN: (10 ** 18, 1)}), ("parts", {JAN: (1, 1001)}), ("parts", {"jan": ONE}), ("parts", {JAN: (2, 2)}), ["even"],
                 "even", ("EVEN",), (EVEN,), ("parts", {JAN: ONE}, 1), ("parts", {JAN: ONE, 7: ONE})]
        for way in wrong + odd_values():
            self.assert_raises(InvalidOperation, parts_of, SOME, ALL_A, way)
            self.assert_raises(InvalidOperation, parts_of, RULED, ("all", "a"), way)
            self.assert_raises(InvalidOperation, exact_shares, SOME, ALL_A, ONE, way)
            self.assert_raises(InvalidOperation, spread, SOME, ALL_A, ONE, way, unit=0)
            self.assert_raises(InvalidOperation, is_spread, SOME, ALL_A, ONE, way, None, unit=0)

    def test_refusals(self):
        self.assertEqual(self.refused(RULED, DIFF, OWN), ("rule",))
        self.assertEqual(self.refused(SOME, DIFF, EVEN), ("weight", ("jan", "b")))
        below = SOME.with_cells({("mar", "a"): (-1, 1), ("feb", "a"): (-2, 1)})
        self.assertEqual(self.refused(below, ALL_A, OWN), ("below", ("feb", "a")))
        self.assertEqual(self.refused(below, ("all", "b"), ("like", "shop", "a")), ("below", ("feb", "b")))
        self.assertEqual(self.refused(SOME, ("mar", "both"), OWN), ("empty",))
        self.assertEqual(self.refused(SOME, ALL_A, ("parts", {})), ("empty",))
        self.assertEqual(self.refused(SOME, ALL_A, ("parts", {JAN: (0, 1)})), ("empty",))
        # Which of several comes first.
        self.assert_raises(InvalidOperation, parts_of, RULED, DIFF, ("like", "zone", "a"))
        self.assertEqual(self.refused(RULED.with_cells({JAN: (-1, 1)}), DIFF, OWN), ("rule",))
        self.assertEqual(self.refused(below, DIFF, OWN), ("weight", ("jan", "b")))
        self.assertEqual(self.refused(SOME, ("mar", "diff"), OWN), ("weight", ("mar", "b")))

    def refused(self, cube, place, way):
        reasons = [self.assert_raises(Refused, call, *args).reason for call, args in (
            (parts_of, (cube, place, way)), (exact_shares, (cube, place, ONE, way)), (spread, (cube, place, (1, 2), way)),
            (is_spread, (cube, place, (1, 2), way, None)))]
        self.assertEqual(reasons, reasons[:1] * 4)
        return reasons[0]

    def test_first_ones_in_the_order_of_the_outline(self):
        """The order of leaves is not that of their names, nor that of the tree."""
        tree = (("g", (("a", (2, 1)), ("m", (3, 1)), ("z", (4, 1)))),)
        outline = Outline((Side("s", ("z", "m", "a"), (("h", tree),)),))
        self.assertEqual(self.refused(Cube(outline), ("g",), EVEN), ("weight", ("z",)))
        tree = (("g", (("a", ONE), ("m", ONE), ("z", ONE))),)
        outline = Outline((Side("s", ("z", "m", "a"), (("h", tree),)),))
        self.assertEqual(self.refused(Cube(outline, (), {("a",): (-1, 1), ("m",): (-1, 1)}), ("g",), OWN), ("below", ("m",)))
        self.assertEqual(spread(Cube(outline), ("g",), (1, 1), EVEN), {("a",): (0, 1), ("m",): (0, 1), ("z",): (1, 1)})
        self.assertEqual(spread(Cube(outline), ("g",), (2, 1), EVEN), {("a",): (0, 1), ("m",): (1, 1), ("z",): (1, 1)})

    def test_a_thousand_leaf_places(self):
        def box(*sizes):
            return Outline(tuple(Side(name, NAMES[:size], (("h", (("top", tuple((leaf, ONE) for leaf in NAMES[:size])),)),))
                                 for name, size in zip("pqr", sizes)))
        cube = Cube(box(25, 20, 2))
        top = ("top", "top", "top")
        self.assertEqual(len(parts_of(cube, top, EVEN)), 1000)
        changes = spread(cube, top, (1234, 1), EVEN)
        self.assertEqual(sum(worth[0] for worth in changes.values()), 1234)
        self.assertIs(is_spread(cube, top, (1234, 1), EVEN, changes), True)
        weights = {leaf: (1 + index % 7, 1 + index % 1000) for index, leaf in enumerate(cube.outline.leaf_places())}
        weights = {leaf: pair(fraction(worth)) for leaf, worth in weights.items()}
        changes = spread(cube, top, (nines(15), 1), ("parts", weights), unit=(1, 1000))
        self.assertEqual(sum(fraction(worth) for worth in changes.values()), nines(15))
        self.assertIs(is_spread(cube, top, (nines(15), 1), ("parts", weights), changes, unit=(1, 1000)), True)
        longer = Cube(box(13, 11, 7))
        for cube in (longer, longer.with_rules((Rule((None, None, None), number(1)),))):
            for call, args in ((parts_of, (EVEN,)), (exact_shares, (ONE, OWN)), (spread, ((1, 2), OWN)), (is_spread, ((1, 2), OWN, None))):
                self.assertEqual(self.assert_raises(TooMany, call, cube, top, *args).limit, 1000)
        self.assertEqual(len(parts_of(longer, ("n0", "top", "top"), EVEN)), 77)


class Shares(unittest.TestCase, Checks):
    def test_example(self):
        own = spread(SOME, ("all", "a"), (7, 1), ("own",))
        told = [own, SOME.with_cells(own).answer(("all", "a")), exact_shares(SOME, ("all", "a"), (7, 1), ("own",))[("jan", "a")]]
        self.assertEqual(told, [{('feb', 'a'): (4, 1), ('jan', 'a'): (3, 1), ('mar', 'a'): None}, ('worth', (7, 1)), (14, 5)])

    def test_exact_shares(self):
        self.assertEqual(exact_shares(SOME, ALL_A, (-7, 2), OWN), {("feb", "a"): (-21, 10), JAN: (-7, 5), ("mar", "a"): (0, 1)})
        self.assertEqual(exact_shares(SOME, ALL_A, (0, 1), EVEN), {("feb", "a"): (0, 1), JAN: (0, 1), ("mar", "a"): (0, 1)})
        self.assertEqual(exact_shares(SOME, ("jan", "both"), (1, 1), OWN), {JAN: (8, 9), ("jan", "b"): (1, 9)})

    def test_first_spreads(self):
        cube = Cube(line(4))
        top = ("top",)
        for total, way, told in (
                (10, EVEN, (3, 3, 2, 2)), (-10, EVEN, (-2, -2, -3, -3)), (0, EVEN, (0, 0, 0, 0)), (1, EVEN, (1, 0, 0, 0)),
                (-1, EVEN, (0, 0, 0, -1)), (8, EVEN, (2, 2, 2, 2)), (7, parts(1, 0, 2, 0), (2, None, 5, None)),
                (10, parts(1, 2, 3, 1), (2, 3, 4, 1)), (5, parts(0, 0, 1, 0), (None, None, 5, None)), (3, parts(1, 1, 1, 1), (1, 1, 1, 0)),
                (100, parts(1, 1, (1, 2), (1, 2)), (33, 33, 17, 17)), (-3, parts(5, 1, 1, 1), (-2, 0, 0, -1))):
            changes = spread(cube, top, (total, 1), way)
            shares = [fraction(share) for share in exact_shares(cube, top, (total, 1), way).values()]
            shares = [None if one is None else share for share, one in zip(shares, told)]
            self.assertEqual(first_spread(shares, total, 1), list(told), (total, way))
            self.assertEqual(changes, whole(*told), (total, way))
            self.assertIs(is_spread(cube, top, (total, 1), way, changes), True)
            self.assertEqual(cube.with_cells(changes).answer(top), ("worth", (total, 1)))

    def test_units(self):
        cube = Cube(line(3))
        self.assertEqual(spread(cube, ("top",), (1, 1), EVEN, unit=(1, 10)), {("n0",): (2, 5), ("n1",): (3, 10), ("n2",): (3, 10)})
        self.assertEqual(spread(cube, ("top",), (5, 2), EVEN, unit=(1, 2)), {("n0",): (1, 1), ("n1",): (1, 1), ("n2",): (1, 2)})
        self.assertEqual(spread(cube, ("top",), (500, 1), EVEN, unit=(100, 1)), {("n0",): (200, 1), ("n1",): (200, 1), ("n2",): (100, 1)})
        self.assertEqual(spread(cube, ("top",), (0, 1), EVEN, unit=(100, 1)), whole(0, 0, 0))
        for total, unit in (((1, 2), (1, 1)), ((1, 3), (1, 2)), ((5, 1), (2, 1)), ((1, 1), (2, 1)), ((-1, 1), (2, 3))):
            for call, args in ((spread, ()), (is_spread, (None,))):
                self.assertEqual(self.assert_raises(Refused, call, cube, ("top",), total, EVEN, *args, unit=unit).reason, ("unit",))
        self.assertEqual(self.assert_raises(Refused, spread, SOME, DIFF, (1, 2), EVEN).reason, ("weight", ("jan", "b")))

    def test_bounds_of_totals_and_units(self):
        cube = Cube(line(2))
        for total in ((nines(15), 1), (-nines(15), 1), (nines(15), 1000), (1, 1000)):
            self.assertEqual(sum(fraction(share) for share in exact_shares(cube, ("top",), total, EVEN).values()), fraction(total))
            changes = spread(cube, ("top",), total, EVEN, unit=(1, 1000))
            self.assertEqual(cube.with_cells(changes).answer(("top",)), ("worth", total))
        self.assertEqual(spread(cube, ("top",), (nines(15), 1), EVEN, unit=(nines(15), 1)), whole(nines(15), 0))
        for total in ((10 ** 15, 1), (-10 ** 15, 1), (1, 1001), (2, 2), (1, -1), (1, 0), 1, None, (True, 1), "1"):
            for call, args in ((exact_shares, ()), (spread, ()), (is_spread, (None,))):
                self.assert_raises(InvalidWorth, call, cube, ("top",), total, 1, *args)
            self.assert_raises(InvalidWorth, spread, cube, ("top",), ONE, EVEN, unit=total)
            self.assert_raises(InvalidWorth, is_spread, RULED, DIFF, ONE, EVEN, None, unit=total)
        for unit in ((0, 1), (-1, 1)):
            self.assert_raises(InvalidWorth, spread, cube, ("top",), ONE, EVEN, unit=unit)
            self.assert_raises(InvalidWorth, is_spread, cube, ("top",), ONE, EVEN, None, unit=unit)

    def test_fair_spreads(self):
        cube = Cube(line(4))
        top, way = ("top",), parts(1, 1, 0, 1)
        for told in ((1, 2, None, 2), (2, 1, None, 2), (2, 2, None, 1)):
            self.assertIs(is_spread(cube, top, (5, 1), way, whole(*told)), True)
        self.assertEqual(spread(cube, top, (5, 1), way), whole(2, 2, None, 1))
        for told in ((2, 2, 0, 1), (3, 1, None, 1), (2, 2, None, 2), (1, 1, None, 1), (2, 2, 1, None), (None, 2, None, 3), (0, 2, None, 3)):
            self.assertIs(is_spread(cube, top, (5, 1), way, whole(*told)), False, told)
        right = whole(2, 2, None, 1)
        for value in ({key: right[key] for key in list(right)[1:]}, {**right, ("n4",): None}, {**right, ("n0",): (True, 1)}, list(right.items()),
                      {**right, ("n0",): (4, 2)}, {**right, ("n0",): 2}, {**right, ("n0",): (3, 2), ("n1",): (5, 2)}, {**right, ("n2",): False},
                      {"n0": (2, 1), **{key: right[key] for key in list(right)[1:]}}):
            self.assertIs(is_spread(cube, top, (5, 1), way, value), False, value)
        for value in odd_values():
            self.assertIs(is_spread(cube, top, (5, 1), way, value), False)
        # A share that is whole is neither rounded down nor up.
        self.assertIs(is_spread(cube, top, (6, 1), way, whole(1, 3, None, 2)), False)
        self.assertIs(is_spread(cube, top, (6, 1), way, whole(2, 2, None, 2)), True)
        self.assertIs(is_spread(cube, top, (1, 1), way, {**right, ("n0",): (1, 2), ("n1",): (1, 2), ("n3",): (0, 1)}, unit=(1, 2)), True)

    def test_all_small_fillings(self):
        """All that add up to the total are tried: those that are fair, and the least difference."""
        cube = Cube(line(3))
        for weights in itertools.product(range(3), repeat=3):
            if not any(weights):
                continue
            for total in (-4, -1, 0, 3, 5):
                shares = [Fraction(total * weight, sum(weights)) for weight in weights]
                changes = spread(cube, ("top",), (total, 1), parts(*weights))
                least = None
                for told in itertools.product(range(-6, 7), repeat=3):
                    if sum(told) != total or any(one and not weight for one, weight in zip(told, weights)):
                        continue
                    away = sum(abs(one - share) for one, share in zip(told, shares))
                    least = away if least is None else min(least, away)
                    fair = all(share // 1 <= one <= -(-share // 1) for one, share in zip(told, shares))
                    value = whole(*(one if weight else None for one, weight in zip(told, weights)))
                    self.assertIs(is_spread(cube, ("top",), (total, 1), parts(*weights), value), fair)
                own = [0 if worth is None else worth[0] for worth in changes.values()]
                self.assertEqual(sum(abs(one - share) for one, share in zip(own, shares)), least)

    def test_random_spreads(self):
        done = 0
        for seed in range(300):
            chance = Chance(seed)
            outline = chance.outline()
            cells = {leaf: (abs(worth[0]), worth[1]) for leaf, worth in chance.cells(outline).items()}
            cube = Cube(outline, (), cells)
            for place in chance.random.sample(list(outline.places()), min(6, outline.total)):
                way = chance.one_of((EVEN, OWN, ("parts", {leaf: (chance.random.randint(0, 4), 1) for leaf in leaf_weights(outline, place)})))
                unit = chance.one_of(((1, 1), (1, 2), (3, 4), (5, 1)))
                total = pair(fraction(unit) * chance.random.randint(-30, 30))
                try:
                    given = parts_of(cube, place, way)
                except Refused as refusal:
                    self.assertIn(refusal.reason[0], ("weight", "empty"))
                    continue
                done += 1
                beneath = [leaf for leaf in outline.leaf_places() if leaf in given]
                self.assertEqual(sorted(beneath), list(leaf_weights(outline, place)))
                quotient = fraction(total) / sum(fraction(part) for part in given.values())
                shares = [quotient * fraction(given[leaf]) if given[leaf][0] else None for leaf in beneath]
                self.assertEqual(exact_shares(cube, place, total, way), {leaf: pair(share or Fraction(0)) for leaf, share in zip(beneath, shares)})
                told = first_spread(shares, fraction(total), fraction(unit))
                changes = spread(cube, place, total, way, unit=unit)
                self.assertEqual(changes, {leaf: pair(one) for leaf, one in zip(beneath, told)}, seed)
                self.assertEqual(list(changes), sorted(changes))
                self.assertIs(is_spread(cube, place, total, way, changes, unit=unit), True)
                self.assertEqual(cube.with_cells(changes).answer(place), ("worth", total))
        self.assertGreater(done, 300)

    def test_not_true_spreads_of_spreads(self):
        """First spreads on groups, and then on their leaves, are another one than that on the leaves."""
        rows = (("top", (("one", ONE), ("two", ONE))), ("one", (("n0", ONE), ("n1", ONE), ("n2", ONE))), ("two", (("n3", ONE),)))
        cube = Cube(Outline((Side("s", NAMES[:4], (("h", rows),)),)))
        groups = Cube(Outline((Side("s", ("one", "two"), (("h", (("top", (("one", ONE), ("two", ONE))),)),)),)))
        above = spread(groups, ("top",), (3, 1), ("parts", {("one",): (3, 1), ("two",): (1, 1)}))
        self.assertEqual(above, {("one",): (2, 1), ("two",): (1, 1)})
        below = {**spread(cube, ("one",), above[("one",)], EVEN), **spread(cube, ("two",), above[("two",)], EVEN)}
        self.assertEqual(below, whole(1, 1, 0, 1))
        self.assertEqual(spread(cube, ("top",), (3, 1), EVEN), whole(1, 1, 1, 0))
        self.assertIs(is_spread(cube, ("top",), (3, 1), EVEN, below), True)

    def test_not_true_a_greater_total_makes_no_share_less(self):
        cube, found = Cube(line(3)), False
        for weights in itertools.product(range(1, 8), repeat=3):
            rows = [list(spread(cube, ("top",), (total, 1), parts(*weights)).values()) for total in range(1, 12)]
            for less, more in zip(rows, rows[1:]):
                found = found or any(one[0] > other[0] for one, other in zip(less, more))
        self.assertTrue(found)

    def test_errors_in_order(self):
        calls = ((parts_of, 0), (exact_shares, 1), (spread, 1), (lambda *args: is_spread(*args, None), 1))
        for value in odd_values():
            for call, many in calls:
                rest = (value,) * (1 + many)
                if value is not SOME:
                    self.assert_raises(InvalidCube, call, value, value, *rest)
                self.assert_raises(InvalidPlace, call, SOME, value, *rest)
                if many:
                    self.assert_raises(InvalidWorth, call, SOME, ALL_A, *rest)
                    self.assert_raises(InvalidOperation, call, SOME, ALL_A, ONE, value)
            self.assert_raises(InvalidWorth, spread, SOME, DIFF, (1, 2), EVEN, unit=value)
            self.assert_raises(InvalidWorth, is_spread, SOME, DIFF, (1, 2), EVEN, None, unit=value)

    def test_nothing_is_shared(self):
        told = {JAN: ONE}
        way = ("parts", told)
        parts_of(SOME, ALL_A, way)[JAN] = None
        spread(SOME, ALL_A, ONE, way).clear()
        self.assertEqual(told, {JAN: ONE})
        self.assertEqual(SOME.cells, dict(SOME.cells))


if __name__ == "__main__":
    unittest.main()
