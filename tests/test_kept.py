import itertools
import unittest

from sumstead.base.worths import times
from sumstead.errors import InvalidCells, InvalidCube, InvalidOperation, InvalidPlace, TooMany
from sumstead.kept import sums
from sumstead.kept.sums import Kept
from sumstead.outline.outlines import Outline, Side
from sumstead.plain.cubes import Cube
from sumstead.plain.rules import Rule
from sumstead.plain.weights import answer_by_leaves, is_clean, leaf_weights

from chance import Chance
from examples import FLAT, LOOP, ONE, RULED, SOME, Checks, nines, number, odd_values
from plainly import fraction

TOP, DIFF, BOTH = ("all", "both"), ("all", "diff"), ("jan", "both")
ALL_A, ALL_B = ("all", "a"), ("all", "b")


def is_right(outline, kept, place, value, cheapest=None):
    """Whether the value is a plan, by the words of the document."""
    weights = leaf_weights(outline, place)
    if type(value) is not tuple or [source for source, _ in value] != sorted({source for source, _ in value}):
        return False
    covered = {}
    for source, factor in value:
        if source not in kept and not (source in outline and outline.has_leaves(source)):
            return False
        for leaf_place, weight in leaf_weights(outline, source).items():
            if leaf_place in covered or leaf_place not in weights:
                return False
            covered[leaf_place] = fraction(factor) * fraction(weight)
    if covered != {leaf_place: fraction(weight) for leaf_place, weight in weights.items()}:
        return False
    return cheapest is None or len(value) == cheapest


def cheapest(outline, kept, place):
    """The fewest pairs, by a search over all choices of kept places."""
    weights = {leaf_place: fraction(weight) for leaf_place, weight in leaf_weights(outline, place).items()}
    tables = {}
    for source in kept:
        table = {leaf_place: fraction(weight) for leaf_place, weight in leaf_weights(outline, source).items()}
        if set(table) <= set(weights) and len({weights[at] / table[at] for at in table}) == 1:
            tables[source] = set(table)
    best = len(weights)
    for many in range(1, len(tables) + 1):
        for chosen in itertools.combinations(tables, many):
            union = set().union(*(tables[source] for source in chosen))
            if len(union) == sum(len(tables[source]) for source in chosen):
                best = min(best, many + len(weights) - len(union))
    return best


def told_by(cube, plan):
    """What a plan tells by the answers at its sources."""
    total = None
    for source, factor in plan:
        answer = cube.answer(source)
        if answer[0] == "worth":
            total = (total or 0) + fraction(factor) * fraction(answer[1])
    return ("nothing",) if total is None else ("worth", (total.numerator, total.denominator))


class KeptSums(unittest.TestCase, Checks):
    def test_constant(self):
        self.assertEqual(sums.MAX_KEPT, 12)

    def test_properties(self):
        kept = Kept(SOME, (TOP, DIFF, ("mar", "both")))
        self.assertEqual((kept.cube, kept.kept_places), (SOME, (TOP, DIFF, ("mar", "both"))))
        self.assertEqual(kept.sums, {DIFF: ((19, 2), 3), TOP: ((21, 2), 3), ("mar", "both"): (None, 0)})
        self.assertEqual(list(kept.sums), [TOP, DIFF, ("mar", "both")])
        self.assertEqual(list(kept), [TOP, DIFF, ("mar", "both")])
        self.assertEqual(list(Kept(SOME, (DIFF, TOP))), [DIFF, TOP])
        self.assertEqual(list(Kept(SOME, (DIFF, TOP)).sums), [TOP, DIFF])
        self.assertEqual((len(kept), str(kept)), (3, "3 kept of 16 places"))
        self.assertEqual(str(Kept(SOME, ())), "0 kept of 16 places")

    def test_membership_and_equality(self):
        kept = Kept(SOME, (TOP, ("jan", "a")))
        for value in odd_values() + [DIFF, ("jan", "b"), ["all", "both"]]:
            self.assertFalse(value in kept)
            self.assertFalse(kept == value)
            self.assertTrue(kept != value)
        self.assertTrue(TOP in kept)
        self.assertEqual(kept, Kept(Cube(FLAT, (), SOME.cells), (TOP, ("jan", "a"))))
        for other in (Kept(SOME, (("jan", "a"), TOP)), Kept(SOME, (TOP,)), Kept(RULED, (TOP, ("jan", "a"))),
                      Kept(SOME.with_cells({("jan", "a"): None}), (TOP, ("jan", "a")))):
            self.assertNotEqual(kept, other)

    def test_nothing_and_zero(self):
        kept = Kept(SOME, (TOP, BOTH))
        self.assertEqual(kept.change({("jan", "a"): (0, 1), ("jan", "b"): None}), (TOP, BOTH))
        self.assertEqual(kept.sums, {TOP: ((6, 1), 2), BOTH: ((0, 1), 1)})
        self.assertEqual(kept.answer(BOTH), ("worth", (0, 1)))
        kept.change({("jan", "a"): None})
        self.assertEqual(kept.sums, {TOP: ((6, 1), 1), BOTH: (None, 0)})
        self.assertEqual(kept.answer(BOTH), ("nothing",))
        kept.change({("jan", "a"): (1, 1), ("jan", "b"): (-1, 1), ("feb", "a"): None})
        self.assertEqual(kept.sums, {TOP: ((0, 1), 2), BOTH: ((0, 1), 2)})

    def test_a_difference_is_no_plan(self):
        """By a difference of two sums a place without cells would be told 0."""
        kept = Kept(SOME.with_cells({("jan", "b"): None}), (TOP, ALL_A))
        value = ((ALL_A, (-1, 1)), (TOP, ONE))
        self.assertFalse(kept.is_plan(ALL_B, value))
        self.assertEqual(kept.answer(ALL_B), ("nothing",))
        self.assertEqual(kept.plan(ALL_B), tuple((leaf, ONE) for leaf in (("feb", "b"), ("jan", "b"), ("mar", "b"))))

    def test_plans(self):
        kept = Kept(SOME, (BOTH, ALL_A, ("feb", "both"), ("jan", "a")))
        self.assertEqual(kept.plan(BOTH), ((BOTH, ONE),))
        self.assertEqual(kept.plan(ALL_A), ((ALL_A, ONE),))
        self.assertEqual(kept.plan(DIFF), ((ALL_A, ONE), (("feb", "b"), (-1, 1)), (("jan", "b"), (-1, 1)), (("mar", "b"), (-1, 1))))
        self.assertEqual(len(kept.plan(TOP)), 4)
        self.assertTrue(kept.is_plan(TOP, ((ALL_A, ONE), (("feb", "b"), ONE), (("jan", "b"), ONE), (("mar", "b"), ONE))))
        self.assertTrue(kept.is_plan(TOP, ((("feb", "both"), ONE), (BOTH, ONE), (("mar", "a"), ONE), (("mar", "b"), ONE))))
        # right, but with a pair more
        more = (((("feb", "a")), ONE), (("feb", "b"), ONE), (BOTH, ONE), (("mar", "a"), ONE), (("mar", "b"), ONE))
        self.assertTrue(is_right(FLAT, kept.kept_places, TOP, more))
        self.assertFalse(kept.is_plan(TOP, more))

    def test_plans_that_are_wrong(self):
        kept = Kept(SOME, (BOTH, ALL_A, ("feb", "both"), ("jan", "a")))
        plan = ((ALL_A, ONE), (("feb", "b"), ONE), (("jan", "b"), ONE), (("mar", "b"), ONE))
        self.assertTrue(kept.is_plan(TOP, plan))
        wrong = [list(plan), plan[::-1], plan[:3], plan + plan[3:], (plan[1], plan[0]) + plan[2:], plan[:3] + ((("mar", "b"), (2, 1)),),
                 ((ALL_A, (True, 1)),) + plan[1:], ((ALL_A, (2, 2)),) + plan[1:], ((ALL_A, 1),) + plan[1:], ((ALL_A,),) + plan[1:],
                 ((list(ALL_A), ONE),) + plan[1:], plan[:3] + ((("mar", "c"), ONE),), plan[:3] + ((("mar", "a"), ONE),),
                 # overlapping, not kept, more than the place has
                 ((ALL_A, ONE), (("feb", "both"), ONE), (BOTH, ONE), (("mar", "b"), ONE)),
                 ((ALL_A, ONE), (ALL_B, ONE)), ((TOP, ONE),), (), ((ALL_A, (-1, 1)),) + plan[1:], ((ALL_A, None),) + plan[1:]]
        for value in wrong + odd_values():
            self.assertFalse(kept.is_plan(TOP, value), value)
        self.assertFalse(kept.is_plan(("jan", "a"), ((BOTH, ONE),)))
        self.assertTrue(kept.is_plan(("jan", "a"), ((("jan", "a"), ONE),)))

    def test_a_group_of_one_leaf(self):
        side = Side("s", ("a", "b"), (("h", (("top", (("one", (2, 3)), ("b", ONE))), ("one", (("a", (3, 1)),)))),))
        cube = Cube(Outline((side,)), (), {("a",): (5, 1)})
        kept = Kept(cube, (("one",),))
        for plan in (((("a",), (2, 1)), (("b",), ONE)), ((("b",), ONE), (("one",), (2, 3)))):
            self.assertTrue(kept.is_plan(("top",), plan))
        self.assertIn(kept.plan(("top",)), (((("a",), (2, 1)), (("b",), ONE)), ((("b",), ONE), (("one",), (2, 3)))))
        self.assertEqual(kept.plan(("one",))[0][1], (3, 1) if kept.plan(("one",))[0][0] == ("a",) else ONE)
        self.assertEqual(kept.answer(("top",)), ("worth", (10, 1)))

    def test_changes(self):
        kept = Kept(SOME, (TOP, ALL_A, BOTH, ("jan", "b"), DIFF))
        self.assertEqual(kept.change({}), ())
        self.assertEqual(kept.change({("jan", "a"): (4, 1), ("mar", "a"): None}), ())
        self.assertEqual(kept.change({("mar", "a"): ONE}), (ALL_A, TOP, DIFF))
        self.assertEqual(kept.change({("jan", "b"): (1, 3)}), (TOP, DIFF, ("jan", "b"), BOTH))
        self.assertEqual(kept.change({("jan", "b"): None, ("jan", "a"): (4, 1)}), (TOP, DIFF, ("jan", "b"), BOTH))
        self.assertEqual(kept.change({("mar", "b"): (0, 1)}), (TOP, DIFF))
        self.assertEqual(kept.cube.cells, {("feb", "a"): (6, 1), ("jan", "a"): (4, 1), ("mar", "a"): ONE, ("mar", "b"): (0, 1)})
        self.assertEqual(kept.sums, Kept(kept.cube, kept.kept_places).sums)
        self.assertEqual(SOME.answer(TOP), ("worth", (21, 2)))

    def test_changes_that_are_refused(self):
        kept = Kept(SOME, (TOP,))
        before = kept.twin()
        for value in odd_values() + [{("jan", "a"): 1}, {("jan", "both"): ONE}, {("jan", "a"): (10 ** 18, 1)},
                                     {("jan", "a"): (1, 1001)}, {("jan",): None}]:
            if value != {}:
                self.assert_raises(InvalidCells, kept.change, value)
        self.assertEqual((kept, kept.sums), (before, before.sums))
        names = tuple(f"n{n}" for n in range(20))
        outline = Outline((Side("p", names), Side("q", names)))
        places = list(outline.leaf_places())
        kept = Kept(Cube(outline, (), {place: ONE for place in places[:300]}), (places[0],))
        self.assertEqual(self.assert_raises(TooMany, kept.change, {places[0]: (2, 1), places[300]: ONE}).limit, 300)
        self.assertEqual(kept.sums, {places[0]: (ONE, 1)})
        self.assertEqual(kept.change({places[0]: None, places[300]: ONE}), (places[0],))
        # A thousand changes, and one more.
        names = tuple(f"n{n}" for n in range(30))
        side = tuple(Side(name, names[:11]) for name in "pqr")
        outline = Outline(side)
        changes = {place: None for place in list(outline.leaf_places())[:1000]}
        kept = Kept(Cube(outline), ())
        self.assertEqual(kept.change(changes), ())
        changes[list(outline.leaf_places())[1000]] = None
        self.assert_raises(InvalidCells, kept.change, changes)

    def test_counts(self):
        kept = Kept(RULED, (TOP,))
        told = {place: kept.count(place) for place in FLAT.places()}
        expected = {place: len([leaf for leaf in leaf_weights(FLAT, place) if leaf in SOME.cells]) for place in FLAT.places()}
        self.assertEqual(told, expected)
        self.assertEqual([kept.count(TOP), kept.count(DIFF), kept.count(("mar", "diff")), kept.count(("jan", "a"))], [3, 3, 0, 1])

    def test_places_that_are_not_clean(self):
        self.assert_raises(InvalidOperation, Kept, RULED, (TOP, DIFF))
        self.assert_raises(InvalidOperation, Kept, LOOP, (BOTH,))
        kept = Kept(RULED, (TOP,))
        for place in (DIFF, ("jan", "diff")):
            self.assert_raises(InvalidOperation, kept.plan, place)
            self.assert_raises(InvalidOperation, kept.is_plan, place, None)
            self.assertEqual(kept.answer(place), RULED.answer(place))
        kept = Kept(LOOP, (ALL_A,))
        self.assertEqual(kept.answer(TOP), ("refused", ("ring", (("jan", "b"), ("jan", "both")))))

    def test_errors(self):
        for value in odd_values():
            if value is not SOME:
                self.assert_raises(InvalidCube, Kept, value, value)
            if value != ():
                self.assert_raises(InvalidPlace, Kept, RULED, value)
            self.assert_raises(InvalidPlace, Kept, RULED, (DIFF, value))
            kept = Kept(RULED, (TOP,))
            for call in (kept.plan, kept.answer, kept.count):
                self.assert_raises(InvalidPlace, call, value)
            self.assert_raises(InvalidPlace, kept.is_plan, value, value)
        self.assert_raises(InvalidPlace, Kept, SOME, (TOP, TOP))
        self.assert_raises(InvalidPlace, Kept, SOME, [TOP])
        places = tuple(FLAT.places())
        self.assertEqual(len(Kept(SOME, places[:12])), 12)
        self.assert_raises(InvalidPlace, Kept, SOME, places[:13])
        self.assert_raises(InvalidPlace, Kept, RULED, places[:13])

    def test_twins(self):
        kept = Kept(SOME, (TOP, BOTH))
        twin = kept.twin()
        self.assertEqual((twin, twin.sums), (kept, kept.sums))
        twin.change({("jan", "a"): None})
        self.assertNotEqual(twin, kept)
        self.assertEqual((kept.sums[TOP], twin.sums[TOP]), (((21, 2), 3), ((13, 2), 2)))
        kept.change({("mar", "b"): (5, 1)})
        self.assertEqual((kept.answer(TOP), twin.answer(TOP)), (("worth", (31, 2)), ("worth", (13, 2))))
        self.assertEqual((kept.answer(BOTH), twin.answer(BOTH)), (("worth", (9, 2)), ("worth", (1, 2))))

    def test_nothing_is_shared(self):
        kept = Kept(SOME, (TOP,))
        kept.sums[TOP] = None
        kept.cube.cells.clear()
        changes = {("mar", "a"): ONE}
        kept.change(changes)
        changes[("mar", "a")] = (7, 1)
        self.assertEqual(kept.sums, {TOP: ((23, 2), 4)})
        self.assertEqual(len(kept.cube), 4)

    def test_great_factors(self):
        """Weights of six levels on five sides lead to factors of many digits."""
        def tall(name, weights):
            groups = [f"g{n}" for n in range(6)]
            rows = [(group, ((below, weight), (f"{below}x", ONE))) for group, below, weight in
                    zip(groups, groups[1:] + ["a"], weights)]
            rows = tuple((group, children[:1]) for group, children in rows)
            return Side(name, ("a", "b"), (("h", rows[:5] + ((rows[5][0], rows[5][1] + (("b", ONE),)),)),))
        outline = Outline(tuple(tall(name, [(97, 10), (-99, 10), (89, 9), (83, 7), (98, 3), (95, 7)]) for name in "pqr"))
        cube = Cube(outline, (), {("a", "a", "a"): (nines(18), 1000 - 1 - 2), ("b", "a", "b"): (1, 3)})
        kept = Kept(cube, (("g5", "g5", "g5"),))
        top = ("g0", "g0", "g0")
        plan = kept.plan(top)
        self.assertEqual(len(plan), 1)
        self.assertTrue(kept.is_plan(top, plan))
        self.assertTrue(is_right(outline, kept.kept_places, top, plan))
        self.assertEqual(kept.answer(top), answer_by_leaves(cube, top))
        self.assertEqual(kept.answer(top), cube.answer(top))
        self.assertGreater(len(str(plan[0][1][0])), 20)


NESTED = Outline((
    Side("p", tuple("abcd"), (
        ("h", (("all", (("ab", ONE), ("cd", (2, 1)))), ("ab", (("a", ONE), ("b", (-1, 1)))), ("cd", (("c", ONE), ("d", ONE))))),
        ("k", (("k", (("abc", (1, 2)), ("d", ONE))), ("abc", (("a", (2, 1)), ("b", (-2, 1)), ("c", (4, 1))))))),),
    Side("q", tuple("xyz"), (("h", (("sum", (("xy", ONE), ("z", ONE))), ("xy", (("x", ONE), ("y", ONE))))),))))


class RandomKept(unittest.TestCase):
    def make(self, seed, most):
        chance = Chance(seed)
        cube = chance.cube()
        if seed % 3 == 1:
            cube = Cube(NESTED, (), chance.cells(NESTED))
        if seed % 2:
            cube = cube.with_rules(())
        clean = [place for place in cube.outline.places() if is_clean(cube, place)]
        # Places of several leaf places save more.
        groups = [place for place in clean if len(leaf_weights(cube.outline, place)) > 1]
        pool = groups if len(groups) > most and seed % 3 else clean
        many = min(len(pool), chance.random.randint(0, most))
        return chance, cube, tuple(chance.random.sample(pool, many)), clean

    def test_plans_against_a_search(self):
        fewer = 0
        for seed in range(200):
            chance, cube, places, clean = self.make(seed, 7)
            kept = Kept(cube, places)
            for place in clean[:40]:
                plan = kept.plan(place)
                best = cheapest(cube.outline, places, place)
                self.assertTrue(is_right(cube.outline, places, place, plan, best), (seed, place, plan))
                self.assertTrue(kept.is_plan(place, plan))
                self.assertEqual(told_by(cube, plan), cube.answer(place))
                fewer += 1 < len(plan) < len(leaf_weights(cube.outline, place))
                self.spoil(chance, kept, place, plan, best)
        self.assertGreater(fewer, 40)

    def spoil(self, chance, kept, place, plan, best):
        outline, places = kept.cube.outline, kept.kept_places
        sources = list(places) + list(outline.leaf_places())
        for _ in range(4):
            rows = dict(plan)
            way = chance.random.random()
            if way < 0.3 and rows:
                del rows[chance.one_of(rows)]
            elif way < 0.5:
                rows[chance.one_of(rows)] = chance.weight()
            if way > 0.2:
                rows[chance.one_of(sources)] = chance.one_of(((1, 1), chance.weight(), (0, 1)))
            value = tuple(sorted(rows.items()))
            self.assertIs(kept.is_plan(place, value), is_right(outline, places, place, value, best), (place, value))

    def test_other_cheapest_plans(self):
        """All plans of few pairs are tried."""
        for seed in range(40):
            chance, cube, places, clean = self.make(seed, 4)
            kept = Kept(cube, places)
            outline = cube.outline
            sources = sorted(set(places) | set(outline.leaf_places()))
            for place in [place for place in clean if len(leaf_weights(outline, place)) <= 4][:6]:
                best = cheapest(outline, places, place)
                if len(sources) > 14 or best > 3:
                    continue
                found = 0
                weights = leaf_weights(outline, place)
                for chosen in itertools.combinations(sources, best):
                    pairs = []
                    for source in chosen:
                        first, weight = next(iter(leaf_weights(outline, source).items()))
                        pairs.append((source, times(weights.get(first, ONE), (weight[1], weight[0]) if weight[0] > 0 else
                                                    (-weight[1], -weight[0]))))
                    right = is_right(outline, places, place, tuple(pairs), best)
                    self.assertIs(kept.is_plan(place, tuple(pairs)), right)
                    found += right
                self.assertGreater(found, 0)

    def test_many_changes(self):
        for seed in range(150):
            chance, cube, places, clean = self.make(seed, 12)
            kept = Kept(cube, places)
            leaf_places = list(cube.outline.leaf_places())
            for _ in range(6):
                changes = {leaf: chance.one_of((None, chance.worth())) for leaf in leaf_places if chance.random.random() < 0.2}
                before = kept.cube.cells
                touched = {leaf for leaf in changes if before.get(leaf) != changes[leaf]}
                expected = tuple(sorted(place for place in places if touched & set(leaf_weights(cube.outline, place))))
                self.assertEqual(kept.change(changes), expected, seed)
                cube = cube.with_cells(changes)
                self.assertEqual(kept.cube, cube)
                self.assertEqual(kept.sums, Kept(cube, places).sums)
                for place in cube.outline.places():
                    self.assertEqual(kept.answer(place), cube.answer(place), (seed, place))
                for place in places:
                    told, count = kept.sums[place]
                    self.assertEqual(cube.answer(place), ("nothing",) if told is None else ("worth", told))
                    self.assertEqual(count, kept.count(place))

    def test_many_leaf_places(self):
        names = tuple(f"n{n}" for n in range(26))
        sides = tuple(Side(name, names, (("h", (("top", tuple((leaf, ONE) for leaf in names)),)),)) for name in "pqr")
        outline = Outline(sides)
        places = list(outline.leaf_places())
        cube = Cube(outline, (Rule((None, None, ("n3",)), number(1)),), {place: (3, 7) for place in places[::61][:300]})
        kept = Kept(cube, tuple(("top", "top", name) for name in names if name != "n3")[:12])
        for place in (("top", "top", "top"), ("top", "top", "n1"), ("n4", "top", "top"), ("top", "n4", "n3")):
            self.assertEqual(kept.answer(place), cube.answer(place))
        self.assertEqual(kept.count(("top", "top", "top")), len(cube))
        free = Kept(cube.with_rules(()), kept.kept_places)
        top = ("top", "top", "top")
        plan = free.plan(top)
        self.assertEqual(len(plan), 12 + 14 * 26 * 26)
        self.assertTrue(free.is_plan(top, plan))
        self.assertFalse(free.is_plan(top, plan[1:]))
        self.assertEqual(free.answer(top), free.cube.answer(top))


if __name__ == "__main__":
    unittest.main()
