import itertools
import random
import sys
import time
import unittest

from sumstead.errors import InvalidOperation, InvalidOutline, InvalidPlace, Refused, TooMany
from sumstead.kept.telling import told
from sumstead.outline.outlines import Outline, Side
from sumstead.plain.weights import leaf_weights
from sumstead.write.totals import Totals

from examples import FLAT, ONE, SHOP, TIME, Checks, odd_values, raised

BOTH = ("year", "sums")
MOST = 10 ** 15
NAMES = tuple(f"n{n}" for n in range(30))
TOP = ("all", "both")


def tree(chance, leaves, letter):
    """Rows of random groups over some leaves."""
    left = list(leaves)
    chance.shuffle(left)
    groups = [f"{letter}{n}" for n in range(chance.randint(0, min(3, len(left) - 1)) + 1)]
    children = {group: [] for group in groups}
    for at, group in enumerate(groups[1:], 1):
        children[groups[chance.randrange(at)]].append((group, ONE))
    for at, leaf in enumerate(left):
        children[groups[at] if at < len(groups) else chance.choice(groups)].append((leaf, ONE))
    return tuple((group, tuple(children[group])) for group in groups)


def random_outline(chance, many, more):
    first, second = NAMES[:many], NAMES[:more]
    # Some leaf stands in no hierarchy.
    return Outline((Side("p", first + ("x",), (("h", tree(chance, first, "g")), ("o", (("other", (("x", ONE), ("n0", (2, 1)))),)))),
                    Side("q", ("y",) + second, (("h", tree(chance, second, "n0g")),))))


def members(outline, at, hierarchy):
    rows = dict(outline.sides[at].hierarchies)[hierarchy]
    return list(dict.fromkeys([name for group, children in rows for name in (group,) + tuple(child for child, _ in children)]))


def lines(outline, hierarchies):
    first, second = (members(outline, at, hierarchies[at]) for at in (0, 1))
    return [(one, second[0]) for one in first] + [(first[0], other) for other in second[1:]]


def is_filling(totals, value):
    """Whether a dict from the grid to integers is a filling, by the words of the document."""
    if any(not totals.pair_at(place)[0] <= value[place] <= totals.pair_at(place)[1] for place in totals.grid):
        return False
    for line, (least, most) in totals.totals.items():
        if not least <= sum(value[place] for place in leaf_weights(totals.outline, line)) <= most:
            return False
    return True


def is_cut(totals, value):
    """Whether a pair of tuples of members is a cut, by the links of the document."""
    outline, (one, other) = totals.outline, totals.hierarchies
    rows = [dict(side.hierarchies)[name] for side, name in zip(outline.sides, (one, other))]
    tops = [row[0][0] for row in rows]
    links = [(0, group, 0, child, (child, tops[1])) for group, children in rows[0] for child, _ in children]
    links += [(1, child, 1, group, (tops[0], child)) for group, children in rows[1] for child, _ in children]
    links += [(1, tops[1], 0, tops[0], tuple(tops))]
    links = [(side, name, goal, end, totals.totals.get(line)) for side, name, goal, end, line in links]
    links += [(0, place[0], 1, place[1], totals.pair_at(place)) for place in totals.grid]
    out, into = 0, 0
    for side, name, goal, end, bound in links:
        inside = (name in value[side], end in value[goal])
        if inside[0] != inside[1]:
            if bound is None:
                return False
            if inside[0]:
                out += bound[0]
            else:
                into += bound[1]
    return out > into


class Grids(unittest.TestCase, Checks):
    def test_example(self):
        much = Totals(FLAT, ("year", "sums"), {("jan", "both"): (9, 9)}, rest=(0, 4))
        told = [much.filling(), much.is_cut((("all", "feb", "mar"), ("a", "b", "both"))), much.is_cut((("jan",), ()))]
        self.assertEqual(told, [None, True, False])
        self.assertIs(much.is_cut(much.cut()), True)

    def test_properties(self):
        totals = Totals(FLAT, BOTH, {("jan", "both"): (1, 2), ("all", "a"): (3, 4)}, bounds={("mar", "b"): (-1, 0)}, rest=(0, 9))
        self.assertEqual((totals.outline, totals.hierarchies, totals.rest), (FLAT, BOTH, (0, 9)))
        self.assertEqual(totals.totals, {("all", "a"): (3, 4), ("jan", "both"): (1, 2)})
        self.assertEqual(list(totals.totals), [("all", "a"), ("jan", "both")])
        self.assertEqual(totals.bounds, {("mar", "b"): (-1, 0)})
        self.assertEqual(totals.grid, tuple(sorted(FLAT.leaf_places())))
        self.assertEqual([totals.pair_at(place) for place in (("mar", "b"), ("mar", "a"))], [(-1, 0), (0, 9)])
        self.assertEqual((len(totals), str(totals)), (2, "totals of 2 lines over 6 cells"))
        bare = Totals(FLAT, BOTH, {})
        self.assertEqual((bare.totals, bare.bounds, bare.rest, len(bare)), ({}, {}, (0, 1000000), 0))
        self.assertEqual(bare.pair_at(("jan", "a")), (0, 1000000))
        self.assertIs(bare.is_filling(bare.filling()), True)
        self.assertIsNone(bare.cut())

    def test_leaves_beside_the_hierarchies(self):
        outline = random_outline(random.Random(2), 3, 2)
        totals = Totals(outline, ("h", "h"), {})
        self.assertEqual(totals.grid, tuple((one, other) for one in NAMES[:3] for other in NAMES[:2]))
        for value in (("x", "n0"), ("n0", "y"), ("g0", "n0"), ("n0", "n0g0")):
            self.assert_raises(InvalidPlace, totals.pair_at, value)
        self.assert_raises(InvalidOperation, Totals, outline, ("h", "h"), {("x", "n0g0"): (0, 1)})
        self.assert_raises(InvalidOperation, Totals, outline, ("h", "h"), {}, bounds={("x", "n0"): (0, 1)})
        self.assertEqual(self.assert_raises(Refused, Totals, outline, ("o", "h"), {}).reason, ("weight", "n0"))

    def test_membership(self):
        totals = Totals(FLAT, BOTH, {("jan", "both"): (9, 9), TOP: (0, 5)})
        for value in odd_values() + [("feb", "both"), ("jan", "a"), ("jan", "diff"), ["jan", "both"], (["jan"], "both")]:
            self.assertFalse(value in totals)
        self.assertTrue(("jan", "both") in totals and TOP in totals)

    def test_pairs_at(self):
        totals = Totals(FLAT, BOTH, {})
        for value in odd_values() + [("jan", "both"), ("all", "a"), ("jan",), ("a", "jan"), (["jan"], "a")]:
            self.assert_raises(InvalidPlace, totals.pair_at, value)

    def test_equality(self):
        told = {("jan", "both"): (1, 2)}
        totals = Totals(FLAT, BOTH, told, bounds={("mar", "b"): (0, 3)}, rest=(0, 2))
        for value in odd_values():
            self.assertFalse(totals == value)
            self.assertTrue(totals != value)
        self.assertEqual(totals, Totals(Outline((TIME, SHOP)), BOTH, dict(told), bounds={("mar", "b"): (0, 3), ("mar", "a"): (0, 2)}, rest=(0, 2)))
        all_of = {place: totals.pair_at(place) for place in totals.grid}
        self.assertEqual(totals, Totals(FLAT, BOTH, told, bounds=all_of, rest=(-7, 7)))
        for other in (Totals(FLAT, BOTH, told, rest=(0, 2)), Totals(FLAT, BOTH, {}, bounds={("mar", "b"): (0, 3)}, rest=(0, 2)),
                      Totals(FLAT, BOTH, {("jan", "both"): (1, 3)}, bounds={("mar", "b"): (0, 3)}, rest=(0, 2)),
                      Totals(FLAT, BOTH, told, bounds={("mar", "b"): (0, 3)}, rest=(0, 1))):
            self.assertNotEqual(totals, other)
        twin = Side("shop", ("a", "b"), (("sums", SHOP.hierarchies[0][1]), ("more", (("m", (("a", ONE), ("b", ONE))),))))
        outline = Outline((TIME, twin))
        self.assertNotEqual(Totals(outline, BOTH, {}), Totals(outline, ("year", "more"), {}))
        self.assertNotEqual(Totals(outline, BOTH, {}), Totals(FLAT, BOTH, {}))

    def test_errors_in_order(self):
        single = Outline((TIME,))
        three = Outline((TIME, SHOP, Side("z", ("a",))))
        for value in odd_values():
            for outline in (single, three) + (() if value is FLAT else (value,)):
                self.assert_raises(InvalidOutline, Totals, outline, value, value, bounds=value, rest=value)
            self.assert_raises(InvalidOperation, Totals, FLAT, value, {}, bounds=value, rest=value)
            if value != {}:
                self.assert_raises(InvalidOperation, Totals, FLAT, ("year", "less"), value, bounds=value, rest=value)
            if value is not None and value != {}:
                self.assert_raises(InvalidOperation, Totals, FLAT, ("year", "less"), {}, bounds=value, rest=value)
            if value != (2, 2):
                self.assert_raises(InvalidOperation, Totals, FLAT, ("year", "less"), {}, rest=value)
                self.assert_raises(InvalidOperation, Totals, FLAT, BOTH, {("jan", "both"): value})
                self.assert_raises(InvalidOperation, Totals, FLAT, BOTH, {}, bounds={("jan", "a"): value})
        for hierarchies in (("sums", "year"), ("year", "time"), ["year", "sums"], ("year",), ("year", "sums", "less"), ("year", "both")):
            self.assert_raises(InvalidOperation, Totals, FLAT, hierarchies, {})
        for line in (("jan", "a"), ("jan", "diff"), ("all", "diff"), ("jan",), "jan", ("both", "all"), ("year", "both"), ("jan", "both", "both")):
            self.assert_raises(InvalidOperation, Totals, FLAT, BOTH, {line: (0, 1)})
        for place in (("jan", "both"), TOP, ("a", "jan"), ("jan",)):
            self.assert_raises(InvalidOperation, Totals, FLAT, BOTH, {}, bounds={place: (0, 1)})
        for bound in ((1, 0), (0, MOST + 1), (-MOST - 1, 0), [0, 1], (0,), (0, 1, 2), (False, 1), (0, True), ("0", 1), (0, None)):
            self.assert_raises(InvalidOperation, Totals, FLAT, BOTH, {("jan", "both"): bound})
            self.assert_raises(InvalidOperation, Totals, FLAT, BOTH, {}, bounds={("jan", "a"): bound})
            self.assert_raises(InvalidOperation, Totals, FLAT, ("year", "less"), {}, rest=bound)
        totals = Totals(FLAT, BOTH, {("jan", "both"): (-MOST, MOST)}, bounds={("jan", "a"): (MOST, MOST)}, rest=(-MOST, -MOST))
        self.assertEqual(totals.filling()[("jan", "a")], (MOST, 1))
        without = Outline((TIME, Side("q", ("a",))))
        self.assert_raises(InvalidOperation, Totals, without, ("year", "sums"), {})

    def test_other_weights(self):
        self.assertEqual(self.assert_raises(Refused, Totals, FLAT, ("year", "less"), {}).reason, ("weight", "b"))
        rows = (("t", (("g", ONE), ("k", (2, 1)))), ("k", (("a", (1, 2)),)), ("g", (("b", (3, 1)),)))
        side = Side("p", ("a", "b"), (("h", rows),))
        self.assertEqual(self.assert_raises(Refused, Totals, Outline((side, SHOP)), ("h", "less"), {}).reason, ("weight", "k"))
        self.assertEqual(self.assert_raises(Refused, Totals, Outline((SHOP, side)), ("sums", "h"), {}).reason, ("weight", "k"))
        # A weight in another hierarchy counts for nothing.
        self.assertEqual(len(Totals(FLAT, BOTH, {}).grid), 6)

    def test_three_hundred_leaf_places(self):
        def outline(many, more, last=ONE):
            return Outline(tuple(Side(name, NAMES, (("h", (("top", tuple((leaf, last if leaf == NAMES[size - 1] else ONE)
                                                                         for leaf in NAMES[:size])),)),))
                                 for name, size in (("p", many), ("q", more))))
        self.assertEqual(len(Totals(outline(30, 10), ("h", "h"), {}).grid), 300)
        self.assertEqual(self.assert_raises(TooMany, Totals, outline(30, 11), ("h", "h"), {}).limit, 300)
        self.assert_raises(TooMany, Totals, outline(17, 18), ("h", "h"), {})
        self.assertEqual(self.assert_raises(Refused, Totals, outline(30, 11, (2, 1)), ("h", "h"), {}).reason, ("weight", "n29"))

    def test_nothing_is_shared(self):
        told, bounds = {TOP: (0, 1)}, {("jan", "a"): (0, 1)}
        totals = Totals(FLAT, BOTH, told, bounds=bounds)
        told.clear()
        bounds.clear()
        totals.totals.clear()
        totals.bounds.clear()
        totals.filling().clear()
        self.assertEqual((totals.totals, totals.bounds, len(totals.filling())), ({TOP: (0, 1)}, {("jan", "a"): (0, 1)}, 6))


class Fillings(unittest.TestCase, Checks):
    def test_judging_fillings(self):
        totals = Totals(FLAT, BOTH, {("jan", "both"): (3, 3), ("all", "b"): (0, 2)}, bounds={("mar", "a"): (-2, -1)}, rest=(0, 4))
        value = {("jan", "a"): (2, 1), ("jan", "b"): (1, 1), ("feb", "a"): (0, 1), ("feb", "b"): (1, 1), ("mar", "a"): (-2, 1), ("mar", "b"): (0, 1)}
        self.assertIs(totals.is_filling(value), True)
        for change in ({("jan", "a"): (3, 1)}, {("jan", "a"): (5, 1), ("jan", "b"): (-2, 1)}, {("mar", "a"): (0, 1)}, {("mar", "b"): (1, 1)},
                       {("feb", "a"): (True, 1)}, {("feb", "a"): (0, True)}, {("feb", "a"): (1, 2)}, {("feb", "a"): 0}, {("feb", "a"): None},
                       {("feb", "both"): (0, 1)}, {"feb": (0, 1)}, {("feb", "a"): (2, 2)}):
            self.assertIs(totals.is_filling({**value, **change}), False, change)
        self.assertIs(totals.is_filling({**value, ("feb", "a"): (4, 1)}), True)
        self.assertIs(totals.is_filling({place: value[place] for place in list(value)[1:]}), False)
        self.assertIs(totals.is_filling(list(value.items())), False)
        for one in odd_values():
            self.assertIs(totals.is_filling(one), False)
        self.assertEqual(list(totals.filling()), list(totals.grid))
        self.assertIsNone(totals.cut())

    def test_judging_cuts(self):
        much = Totals(FLAT, BOTH, {("jan", "both"): (9, 9)}, rest=(0, 4))
        right = (("all", "feb", "mar"), ("a", "b", "both"))
        for value in (right[::-1], list(right), (list(right[0]), right[1]), (("feb", "all", "mar"), right[1]), (right[0] + ("mar",), right[1]),
                      (right[0], ("a", "b")), ((), ()), (("jan",), ()), (("all", "feb", "jan", "mar"), right[1]), (("all", "feb"), right[1]),
                      (right[0], ("a", "b", "both", "diff")), (("all", "feb", "mar", "year"), right[1]), right + ((),), (right[0],),
                      (right[0], None), ((1,), ())):
            self.assertIs(much.is_cut(value), False, value)
        self.assertIs(much.is_cut(right), True)
        for one in odd_values():
            self.assertIs(much.is_cut(one), False)
        fine = Totals(FLAT, BOTH, {("jan", "both"): (8, 8)}, rest=(0, 4))
        self.assertIs(fine.is_cut(right), False)
        self.assertIs(fine.is_filling(fine.filling()), True)

    def test_both_tops(self):
        for bound, there in (((24, 30), True), ((25, 30), False), ((-5, -1), False), ((-5, 0), True), ((7, 7), True)):
            self.check(Totals(FLAT, BOTH, {TOP: bound}, rest=(0, 4)), there)
        self.check(Totals(FLAT, BOTH, {TOP: (5, 5), ("jan", "both"): (0, 3), ("feb", "both"): (0, 1), ("mar", "both"): (0, 0)}), False)
        self.check(Totals(FLAT, BOTH, {("all", "a"): (5, 5), ("all", "b"): (5, 5), TOP: (11, 12)}), False)
        self.check(Totals(FLAT, BOTH, {("all", "a"): (5, 5), ("jan", "both"): (6, 9)}, bounds={("jan", "b"): (0, 0)}), False)

    def check(self, totals, there):
        filling, cut = totals.filling(), totals.cut()
        self.assertIs(filling is not None, there)
        self.assertIs(cut is None, there)
        if there:
            self.assertEqual(list(filling), list(totals.grid))
            self.assertTrue(is_filling(totals, {place: worth[0] for place, worth in filling.items()}))
            self.assertIs(totals.is_filling(filling), True)
        else:
            self.assertEqual(cut, tuple(tuple(sorted(row)) for row in cut))
            self.assertTrue(is_cut(totals, cut))
            self.assertIs(totals.is_cut(cut), True)

    def test_against_all_small_fillings(self):
        kinds = {True: 0, False: 0}
        chance = random.Random(4)
        for _ in range(250):
            outline = random_outline(chance, chance.randint(1, 3), chance.randint(1, 2))
            told = {}
            for line in lines(outline, ("h", "h")):
                if chance.random() < 0.4:
                    least = chance.randint(-2, 4)
                    told[line] = (least, least + chance.choice((0, 1, 2, 5)))
            bounds = {}
            grid = [(one, other) for one in members(outline, 0, "h") for other in members(outline, 1, "h") if outline.has_leaves((one, other))]
            for place in grid:
                if chance.random() < 0.3:
                    least = chance.randint(-1, 1)
                    bounds[place] = (least, least + chance.randint(0, 1))
            totals = Totals(outline, ("h", "h"), told, bounds=bounds, rest=(0, chance.randint(0, 2)))
            there = any(is_filling(totals, dict(zip(totals.grid, numbers))) for numbers in
                        itertools.product(*(range(totals.pair_at(place)[0], totals.pair_at(place)[1] + 1) for place in totals.grid)))
            kinds[there] += 1
            self.check(totals, there)
            self.spoil(chance, totals)
        self.assertTrue(all(many > 50 for many in kinds.values()), kinds)

    def spoil(self, chance, totals):
        """Fillings and cuts with one spot changed, and random ones."""
        filling, cut = totals.filling(), totals.cut()
        if filling is not None:
            for place in totals.grid:
                for more in (-1, 1):
                    value = {**filling, place: (filling[place][0] + more, 1)}
                    self.assertIs(totals.is_filling(value), is_filling(totals, {key: worth[0] for key, worth in value.items()}))
        names = [sorted(members(totals.outline, at, "h")) for at in (0, 1)]
        values = []
        if cut is not None:
            for at in (0, 1):
                for name in names[at]:
                    row = tuple(sorted(set(cut[at]) ^ {name}))
                    values.append((row, cut[1]) if at == 0 else (cut[0], row))
        values.extend(tuple(tuple(name for name in row if chance.random() < 0.5) for row in names) for _ in range(6))
        for value in values:
            self.assertIs(totals.is_cut(value), is_cut(totals, value), value)
            self.assertFalse(filling is not None and is_cut(totals, value))

    def test_not_true_each_two_together(self):
        """Of three totals each two have a filling together, all three have none."""
        told = {("all", "a"): (2, 2), ("all", "b"): (2, 2), TOP: (5, 5)}
        for some in itertools.combinations(told, 2):
            self.check(Totals(FLAT, BOTH, {line: told[line] for line in some}), True)
        self.check(Totals(FLAT, BOTH, told), False)

    def test_not_true_fractions_lead_to_whole_units(self):
        """Five totals, one of them at inner groups of both sides: halves fit them, whole numbers do not."""
        def side(name):
            rows = (("top", (("both", ONE), ("n2", ONE))), ("both", (("n0", ONE), ("n1", ONE))))
            return Side(name, NAMES[:3], (("h", rows),))
        outline = Outline((side("p"), side("q")))
        asked = (("n0", "top"), ("n2", "top"), ("both", "both"), ("top", "n1"), ("top", "n2"))
        cells = (("n0", "n0"), ("n0", "n2"), ("n1", "n1"), ("n2", "n1"), ("n2", "n2"))

        def all_are_one(worths):
            filling = {**{place: (0, 1) for place in outline.leaf_places()}, **dict(zip(cells, worths))}
            return all(told(outline, place, filling) == ONE for place in asked)
        self.assertTrue(all_are_one([(1, 2)] * 5))
        self.assertFalse(any(all_are_one([(one, 1) for one in numbers]) for numbers in itertools.product(range(-2, 3), repeat=5)))
        # Such a place is no line; without it there is a filling.
        one_each = {place: (1, 1) for place in asked}
        self.assert_raises(InvalidOperation, Totals, outline, ("h", "h"), one_each)
        del one_each[("both", "both")]
        self.check(Totals(outline, ("h", "h"), one_each, bounds={place: (0, 1) for place in cells}, rest=(0, 0)), True)

    def test_great_numbers(self):
        self.check(Totals(FLAT, BOTH, {TOP: (MOST, MOST), ("jan", "both"): (-MOST, 1 - MOST)}, rest=(-MOST, MOST)), True)
        self.check(Totals(FLAT, BOTH, {TOP: (MOST, MOST), ("jan", "both"): (-MOST, 1 - MOST)}, rest=(1 - MOST // 2, MOST)), False)
        self.check(Totals(FLAT, BOTH, {TOP: (MOST, MOST), ("jan", "both"): (-MOST, 1 - MOST)}, rest=(-MOST // 2, MOST)), True)


class ManyTotals(unittest.TestCase):
    check = Fillings.check

    def setUp(self):
        self.limit = sys.getrecursionlimit()
        sys.setrecursionlimit(200)

    def tearDown(self):
        sys.setrecursionlimit(self.limit)

    def outline(self, chance):
        return Outline((Side("p", NAMES, (("h", tree(chance, NAMES, "g")),)), Side("q", NAMES[:10], (("h", tree(chance, NAMES[:10], "g")),))))

    def sums(self, outline, value):
        return {line: sum(value[place] for place in leaf_weights(outline, line)) for line in lines(outline, ("h", "h"))}

    def test_grids_of_three_hundred(self):
        begin = time.time()
        for seed in range(6):
            chance = random.Random(seed)
            outline = self.outline(chance)
            value = {place: chance.choice((0, 0, chance.randint(-9, 99), chance.randint(0, MOST // 10 ** 4))) for place in outline.leaf_places()}
            told = {line: (total, total) for line, total in self.sums(outline, value).items()}
            bounds = {place: (min(0, worth), max(0, worth) + chance.randint(0, 3)) for place, worth in value.items()}
            self.check(Totals(outline, ("h", "h"), told, bounds=bounds), True)
            # One total is one too many.
            line = chance.choice([line for line in told if outline.has_leaves(line) or line != list(told)[0]])
            self.check(Totals(outline, ("h", "h"), {**told, line: (told[line][0] + 1,) * 2}, bounds=bounds), False)
            some = {line: (told[line][0], told[line][1] + 5) for line in told if chance.random() < 0.5}
            self.check(Totals(outline, ("h", "h"), some, bounds=bounds), True)
        self.assertLess(time.time() - begin, 40)

    def test_a_tall_tree(self):
        """Six levels in both hierarchies."""
        def tall(name, leaves):
            groups = [f"g{n}" for n in range(6)]
            rows = tuple((group, ((below, ONE), (leaf, ONE))) for group, below, leaf in zip(groups, groups[1:] + [leaves[5]], leaves))
            return Side(name, leaves, (("h", rows[:5] + ((groups[5], tuple((leaf, ONE) for leaf in leaves[5:])),)),))
        outline = Outline((tall("p", NAMES[:20]), tall("q", NAMES[:15])))
        chance = random.Random(9)
        value = {place: chance.randint(0, 5) for place in outline.leaf_places()}
        told = {line: (total, total) for line, total in self.sums(outline, value).items()}
        self.check(Totals(outline, ("h", "h"), told, rest=(0, 5)), True)
        for line in (("g5", "g0"), ("g0", "g3"), ("g0", "g0"), ("n3", "g0")):
            self.check(Totals(outline, ("h", "h"), {**told, line: (told[line][0] - 1,) * 2}, rest=(0, 5)), False)


if __name__ == "__main__":
    unittest.main()
