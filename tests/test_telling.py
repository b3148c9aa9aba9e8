import itertools
import time
import unittest
from fractions import Fraction

from sumstead.errors import InvalidCells, InvalidOutline, InvalidPlace, TooMany
from sumstead.kept.sums import Kept
from sumstead.kept.telling import are_unlike_fillings, is_mixture, mixture, told, unlike_fillings
from sumstead.outline.outlines import Outline, Side
from sumstead.plain.cubes import Cube
from sumstead.plain.weights import leaf_weights

from chance import Chance
from examples import FLAT, ONE, SHOP, SOME, TIME, Checks, nines, odd_values
from plainly import fraction, pair

SEEN = (("all", "both"), ("all", "diff"))
ZEROS = {leaf: (0, 1) for leaf in sorted(FLAT.leaf_places())}
HALF = {SEEN[0]: (1, 2), SEEN[1]: (1, 2)}


def filled(**worths):
    """The filling of FLAT with 0, but for worths at places like jan_a."""
    return {**ZEROS, **{tuple(key.split("_")): (worth, 1) for key, worth in worths.items()}}


def weights(outline, place):
    return {leaf: fraction(weight) for leaf, weight in leaf_weights(outline, place).items()}


def rank(rows):
    """The rank of rows of fractions."""
    rows = [list(row) for row in rows]
    found = 0
    for column in range(len(rows[0]) if rows else 0):
        at = next((at for at in range(found, len(rows)) if rows[at][column]), None)
        if at is None:
            continue
        rows[found], rows[at] = rows[at], rows[found]
        for below in range(found + 1, len(rows)):
            factor = rows[below][column] / rows[found][column]
            rows[below] = [one - factor * two for one, two in zip(rows[below], rows[found])]
        found += 1
    return found


def has_mixture(outline, place, seen):
    leaves = list(outline.leaf_places())
    rows = [[weights(outline, one).get(leaf, Fraction(0)) for leaf in leaves] for one in seen]
    own = [weights(outline, place).get(leaf, Fraction(0)) for leaf in leaves]
    return rank(rows) == rank(rows + [own])


def mixes(outline, place, seen, value):
    """Whether the value is a mixture, by the words of the document."""
    if set(value) != set(seen):
        return False
    for leaf in outline.leaf_places():
        total = sum(fraction(value[one]) * weights(outline, one).get(leaf, 0) for one in seen)
        if total != weights(outline, place).get(leaf, 0):
            return False
    return True


class Told(unittest.TestCase, Checks):
    def test_told(self):
        filling = filled(jan_a=4, feb_a=6, jan_b=-1)
        filling[("mar", "b")] = (1, 3)
        self.assertEqual(told(FLAT, ("all", "both"), filling), (28, 3))
        self.assertEqual(told(FLAT, ("all", "diff"), filling), (32, 3))
        self.assertEqual(told(FLAT, ("mar", "diff"), filling), (-1, 3))
        self.assertEqual(told(FLAT, ("jan", "a"), filling), (4, 1))
        self.assertEqual(told(FLAT, ("all", "both"), ZEROS), (0, 1))

    def test_against_cubes(self):
        for seed in range(60):
            chance = Chance(seed)
            outline = chance.outline()
            filling = {leaf: chance.worth() for leaf in outline.leaf_places()}
            cube = Cube(outline, (), filling)
            for place in outline.places():
                self.assertEqual(cube.answer(place), ("worth", told(outline, place, filling)))

    def test_digits(self):
        for worth, right in (((nines(4000), 1), True), ((10 ** 4000, 1), False), ((1, nines(4000)), True),
                             ((1, 10 ** 4000), False), ((-nines(4000), 1), True), ((-10 ** 4000, 1), False)):
            filling = {**ZEROS, ("jan", "a"): worth}
            self.assertIs(are_unlike_fillings(FLAT, ("jan", "a"), (), (ZEROS, filling)), right)
            if right:
                self.assertEqual(told(FLAT, ("all", "both"), filling), worth)
            else:
                self.assert_raises(InvalidCells, told, FLAT, ("all", "both"), filling)

    def test_errors(self):
        for value in odd_values():
            if value is not FLAT:
                self.assert_raises(InvalidOutline, told, value, value, value)
            self.assert_raises(InvalidPlace, told, FLAT, value, value)
            self.assert_raises(InvalidCells, told, FLAT, ("jan", "a"), value)
        less = {leaf: ZEROS[leaf] for leaf in list(ZEROS)[1:]}
        for value in (less, {**less, ("jan", "both"): (1, 1)}, {**ZEROS, ("jan", "both"): (1, 1)}, {**ZEROS, ("jan", "a"): None},
                      {**ZEROS, ("jan", "a"): 1}, {**ZEROS, ("jan", "a"): (2, 2)}, {**ZEROS, ("jan", "a"): (True, 1)},
                      {**less, "jan": (1, 1)}, list(ZEROS.items())):
            self.assert_raises(InvalidCells, told, FLAT, ("jan", "a"), value)
            self.assertIs(are_unlike_fillings(FLAT, ("jan", "a"), (), (value, ZEROS)), False)
            self.assertIs(are_unlike_fillings(FLAT, ("jan", "a"), (), (ZEROS, value)), False)

    def test_more_than_three_hundred_leaf_places(self):
        names = tuple(f"n{n}" for n in range(30))
        outline = Outline((Side("p", names), Side("q", names[:11])))
        filling = {leaf: (index, 1) for index, leaf in enumerate(outline.leaf_places())}
        self.assertEqual(told(outline, ("n29", "n10"), filling), (329, 1))


class Mixtures(unittest.TestCase, Checks):
    def test_example(self):
        found = [mixture(FLAT, ("all", "a"), SEEN), mixture(FLAT, ("jan", "a"), SEEN),
                 is_mixture(FLAT, ("all", "b"), SEEN, {SEEN[0]: (1, 2), SEEN[1]: (-1, 2)})]
        self.assertEqual(found, [{('all', 'both'): (1, 2), ('all', 'diff'): (1, 2)}, None, True])

    def test_judging(self):
        self.assertIs(is_mixture(FLAT, ("all", "a"), SEEN, HALF), True)
        self.assertIs(is_mixture(FLAT, ("all", "a"), SEEN, dict(reversed(HALF.items()))), True)
        more = SEEN + (("jan", "a"),)
        self.assertIs(is_mixture(FLAT, ("all", "a"), more, {**HALF, ("jan", "a"): (0, 1)}), True)
        for seen, value in ((SEEN, {SEEN[0]: (1, 2), SEEN[1]: (1, 3)}), (SEEN, {SEEN[0]: (1, 2)}), (more, HALF),
                            (SEEN, {**HALF, ("jan", "a"): (0, 1)}), (SEEN, {SEEN[0]: (2, 4), SEEN[1]: (1, 2)}),
                            (SEEN, {SEEN[0]: (1, 2), SEEN[1]: None}), (SEEN, {}), (SEEN, tuple(HALF.items())),
                            (SEEN, {SEEN[0]: (1, 2), ("jan", "a"): (1, 2)}), (SEEN, {SEEN[0]: 1, SEEN[1]: 1}),
                            (more, {**HALF, ("jan", "a"): (1, 1)})):
            self.assertIs(is_mixture(FLAT, ("all", "a"), seen, value), False, value)
        for value in odd_values():
            self.assertIs(is_mixture(FLAT, ("all", "a"), SEEN, value), False)
        one = (("jan", "a"),)
        self.assertIs(is_mixture(FLAT, ("jan", "a"), one, {one[0]: (True, 1)}), False)
        self.assertIs(is_mixture(FLAT, ("jan", "a"), one, {one[0]: (1, 1)}), True)

    def test_below_zero_and_overlapping(self):
        seen = (("all", "both"), ("all", "a"))
        self.assertEqual(mixture(FLAT, ("all", "b"), seen), {("all", "a"): (-1, 1), ("all", "both"): (1, 1)})
        seen = (("all", "both"), ("jan", "both"), ("feb", "both"), ("mar", "diff"))
        self.assertEqual(mixture(FLAT, ("mar", "a"), seen), {
            ("all", "both"): (1, 2), ("feb", "both"): (-1, 2), ("jan", "both"): (-1, 2), ("mar", "diff"): (1, 2)})
        self.assertEqual(list(mixture(FLAT, ("mar", "a"), seen)), sorted(seen))

    def test_seen_places_that_hang_on_one_another(self):
        seen = (("jan", "both"), ("jan", "a"), ("jan", "b"), ("jan", "diff"))
        found = mixture(FLAT, ("jan", "diff"), seen)
        self.assertTrue(mixes(FLAT, ("jan", "diff"), seen, found))
        for factor in (0, 1, 2, Fraction(-3, 7)):
            # diff = factor * diff + (1 - factor) * (a - b), and both - a - b is 0.
            value = {("jan", "diff"): pair(Fraction(factor)), ("jan", "a"): pair(2 - Fraction(factor)),
                     ("jan", "b"): pair(Fraction(factor)), ("jan", "both"): (-1, 1)}
            self.assertIs(is_mixture(FLAT, ("jan", "diff"), seen, value), True)
            self.assertTrue(mixes(FLAT, ("jan", "diff"), seen, value))

    def test_without_seen_places(self):
        self.assertIsNone(mixture(FLAT, ("jan", "a"), ()))
        self.assertIs(is_mixture(FLAT, ("jan", "a"), (), {}), False)
        found = unlike_fillings(FLAT, ("jan", "a"), ())
        self.assertIs(are_unlike_fillings(FLAT, ("jan", "a"), (), found), True)

    def test_a_mixture_can_tell_wrongly_where_cells_lack(self):
        """By 0 for nothing: the sources tell 4 and 4, and the place tells nothing."""
        seen = (("jan", "both"), ("jan", "a"))
        found = mixture(FLAT, ("jan", "b"), seen)
        self.assertEqual(found, {("jan", "a"): (-1, 1), ("jan", "both"): (1, 1)})
        cube = Cube(FLAT, (), {("jan", "a"): (4, 1)})
        self.assertEqual([cube.answer(one) for one in seen], [("worth", (4, 1))] * 2)
        self.assertEqual(cube.answer(("jan", "b")), ("nothing",))

    def test_plans_are_mixtures(self):
        for seed in range(60):
            chance = Chance(seed)
            outline = chance.outline()
            places = list(outline.places())
            kept = Kept(Cube(outline), tuple(chance.random.sample(places, min(6, len(places)))))
            for place in places[:20]:
                plan = dict(kept.plan(place))
                seen = tuple(set(plan) | set(kept.kept_places[:2]))
                if len(seen) <= 12:
                    value = {one: plan.get(one, (0, 1)) for one in seen}
                    self.assertIs(is_mixture(outline, place, seen, value), True)
                    self.assertIsNotNone(mixture(outline, place, seen))

    def test_errors(self):
        calls = (mixture, unlike_fillings, lambda *args: is_mixture(*args, None), lambda *args: are_unlike_fillings(*args, None))
        names = tuple(f"n{n}" for n in range(30))
        wide = Outline((Side("p", names), Side("q", names[:10]), Side("r", ("a", "b"))))
        full = Outline((Side("p", names), Side("q", names[:10])))
        places = tuple(full.places())
        for call in calls:
            for value in odd_values():
                if value is not FLAT:
                    self.assert_raises(InvalidOutline, call, value, value, value)
                self.assert_raises(InvalidPlace, call, FLAT, value, value)
                if value != ():
                    self.assert_raises(InvalidPlace, call, FLAT, ("jan", "a"), value)
                    self.assert_raises(InvalidPlace, call, wide, ("n0", "n0", "a"), value)
            self.assert_raises(InvalidPlace, call, FLAT, ("jan", "a"), (("jan", "a"), ("jan", "a")))
            self.assert_raises(InvalidPlace, call, FLAT, ("jan", "a"), list(SEEN))
            self.assertEqual(self.assert_raises(TooMany, call, wide, ("n0", "n0", "a"), ()).limit, 300)
            call(full, places[0], places[:12])
            self.assert_raises(InvalidPlace, call, full, places[0], places[:13])

    def test_nothing_is_shared(self):
        found = unlike_fillings(FLAT, ("jan", "a"), SEEN)
        found[0].clear()
        self.assertEqual(unlike_fillings(FLAT, ("jan", "a"), SEEN)[0], ZEROS)


class UnlikeFillings(unittest.TestCase, Checks):
    def test_judging(self):
        one, other = filled(jan_a=1, feb_a=-1), ZEROS
        self.assertIs(are_unlike_fillings(FLAT, ("jan", "a"), SEEN, (one, other)), True)
        self.assertIs(are_unlike_fillings(FLAT, ("jan", "a"), SEEN, (other, one)), True)
        for value in ((one, one), (one, filled(jan_a=1)), [one, other], (one, other, other), (one,), None,
                      (filled(jan_a=1), filled(feb_a=1, jan_b=1)), (filled(feb_a=1), filled(mar_a=1))):
            self.assertIs(are_unlike_fillings(FLAT, ("jan", "a"), SEEN, value), False, value)
        self.assertIs(are_unlike_fillings(FLAT, ("jan", "a"), SEEN, (filled(jan_a=7, feb_a=2), filled(feb_a=9))), True)
        for value in odd_values():
            self.assertIs(are_unlike_fillings(FLAT, ("jan", "a"), SEEN, value), False)
            self.assertIs(are_unlike_fillings(FLAT, ("jan", "a"), SEEN, (value, value)), False)

    def test_a_place_has_one_just_if_it_has_not_the_other(self):
        kinds = {True: 0, False: 0}
        for seed in range(200):
            chance = Chance(seed)
            outline = chance.outline()
            places = list(outline.places())
            seen = tuple(chance.random.sample(places, min(len(places), chance.random.randint(0, 12))))
            for place in chance.random.sample(places, min(len(places), 4)):
                self.check(outline, place, seen, kinds)
        self.assertTrue(all(kinds[kind] > 100 for kind in kinds), kinds)

    def check(self, outline, place, seen, kinds):
        expected = has_mixture(outline, place, seen)
        kinds[expected] += 1
        factors, fillings = mixture(outline, place, seen), unlike_fillings(outline, place, seen)
        self.assertIs(factors is not None, expected)
        self.assertIs(fillings is None, expected)
        if expected:
            self.assertEqual(list(factors), sorted(seen))
            self.assertTrue(mixes(outline, place, seen, factors))
            self.assertIs(is_mixture(outline, place, seen, factors), True)
            for one in seen:
                changed = {**factors, one: pair(fraction(factors[one]) + 1)}
                self.assertIs(is_mixture(outline, place, seen, changed), False)
                self.assertIs(is_mixture(outline, place, seen, {key: factors[key] for key in seen if key != one}), False)
            return
        one, other = fillings
        leaves = sorted(outline.leaf_places())
        self.assertEqual((list(one), list(other)), (leaves, leaves))
        for asked in seen:
            self.assertEqual(told(outline, asked, one), told(outline, asked, other))
        self.assertNotEqual(told(outline, place, one), told(outline, place, other))
        self.assertIs(are_unlike_fillings(outline, place, seen, fillings), True)
        spoilt = {leaf: other[leaf] for leaf in leaves[1:]}
        self.assertIs(are_unlike_fillings(outline, place, seen, (one, spoilt)), False)

    def test_small_fillings_against_all(self):
        """Where there is a mixture, no two small fillings are unlike at the place and alike at all seen places."""
        outline = Outline((Side("s", ("a", "b", "c"), (("h", (("t", (("a", ONE), ("b", (2, 1)), ("c", (-1, 1)))),)),
                                                      ("k", (("u", (("a", (3, 1)), ("b", (1, 2)))),)))),))
        fillings = [{("a",): (one, 1), ("b",): (two, 1), ("c",): (three, 1)} for one, two, three in
                    itertools.product(range(-1, 2), repeat=3)]
        places = list(outline.places())
        for seen in itertools.chain(*(itertools.combinations(places, many) for many in range(4))):
            for place in places:
                unlike = any(are_unlike_fillings(outline, place, seen, (one, other)) for one in fillings[13:14]
                             for other in fillings)
                if mixture(outline, place, seen) is not None:
                    self.assertFalse(unlike)

    def test_many_leaf_places_and_great_weights(self):
        names = tuple(f"n{n}" for n in range(30))
        chance = Chance(3)

        def odd_weight():
            while True:
                top, bottom = chance.random.randint(1, 99), chance.random.randint(1, 10)
                if pair(Fraction(top, bottom)) == (top, bottom):
                    return (top, bottom)
        trees = tuple((f"h{h}", (("g%d" % h, tuple((name, odd_weight()) for name in names)),)) for h in range(3))
        others = tuple((f"h{h}", (("g%d" % h, tuple((name, odd_weight()) for name in names[:10])),)) for h in range(3))
        outline = Outline((Side("p", names, trees), Side("q", names[:10], others)))
        seen = tuple((f"g{one}", f"g{other}") for one in range(3) for other in range(3)) + (("n1", "g0"), ("g1", "n3"), ("n2", "n2"))
        begin = time.time()
        for place in (("n0", "n0"), ("g0", "n4"), ("n1", "g0"), ("n2", "g2")):
            kinds = {True: 0, False: 0}
            self.check(outline, place, seen, kinds)
        self.assertLess(time.time() - begin, 20)


if __name__ == "__main__":
    unittest.main()
