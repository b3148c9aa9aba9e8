import unittest
from fractions import Fraction

from sumstead.base.worths import worth
from sumstead.errors import InvalidOutline, InvalidPlace, InvalidQuestion, TooMany
from sumstead.outline.outlines import Outline, Side
from sumstead.plain.weights import leaf_weights
from sumstead.right.hidden import are_hidden_fillings, hidden_fillings, is_told_cell, leaks, told_cell
from sumstead.right.views import Right, cut_outline

from chance import Chance
from examples import FLAT, ONE, SOME, Checks, odd_values
from plainly import fraction

JAN_A, JAN_B = ("jan", "a"), ("jan", "b")
RIGHT = Right({"shop": ("b",)}, (("jan", "both"),))
ZERO = (0, 1)


def is_right_mixture(outline, right, leaf_place, value):
    """By the words of the document."""
    seen = {*right.granted, *cut_outline(outline, right).leaf_places()}
    if not set(value) <= seen or not all(value[place] != ZERO for place in value):
        return False
    sums = {}
    for place, factor in value.items():
        for leaf, weight in leaf_weights(outline, place).items():
            sums[leaf] = sums.get(leaf, 0) + fraction(factor) * fraction(weight)
    return all(total == (1 if leaf == leaf_place else 0) for leaf, total in sums.items()) and leaf_place in sums


def are_right_fillings(outline, right, leaf_place, value):
    seen = {*right.granted, *cut_outline(outline, right).leaf_places()}
    places = set(outline.leaf_places())
    if any(set(filling) != places for filling in value):
        return False

    def told(place, filling):
        return sum(fraction(weight) * fraction(filling[leaf]) for leaf, weight in leaf_weights(outline, place).items())
    return all(told(place, value[0]) == told(place, value[1]) for place in seen) and value[0][leaf_place] != value[1][leaf_place]


def rank(rows):
    """The rank of rows of fractions."""
    rows, found = [list(row) for row in rows], 0
    for column in range(len(rows[0]) if rows else 0):
        pivot = next((at for at in range(found, len(rows)) if rows[at][column] != 0), None)
        if pivot is None:
            continue
        rows[found], rows[pivot] = rows[pivot], rows[found]
        for at in range(len(rows)):
            if at != found and rows[at][column] != 0:
                factor = rows[at][column] / rows[found][column]
                rows[at] = [one - factor * two for one, two in zip(rows[at], rows[found])]
        found += 1
    return found


def is_told_by_rank(outline, right, leaf_place):
    """Whether the row of a cell adds nothing to the rows of the seen places."""
    places = sorted(outline.leaf_places())
    rows = []
    for place in sorted({*right.granted, *cut_outline(outline, right).leaf_places()}):
        weights = leaf_weights(outline, place)
        rows.append([fraction(weights[leaf]) if leaf in weights else Fraction(0) for leaf in places])
    single = [Fraction(leaf == leaf_place) for leaf in places]
    return rank(rows) == rank(rows + [single])


def hidden_places(outline, right):
    return [place for place in sorted(outline.leaf_places())
            if any(leaf in right.hidden.get(name, ()) for name, leaf in zip(outline.names, place))]


class Hidden(unittest.TestCase, Checks):
    def test_a_cell_beside_a_seen_total(self):
        told = told_cell(FLAT, RIGHT, JAN_B)
        self.assertEqual(told, {JAN_A: (-1, 1), ("jan", "both"): ONE})
        self.assertEqual(list(told), sorted(told))
        self.assertTrue(is_told_cell(FLAT, RIGHT, JAN_B, told))
        self.assertIsNone(hidden_fillings(FLAT, RIGHT, JAN_B))
        self.assertEqual(leaks(FLAT, RIGHT), (JAN_B,))
        self.assertIsNone(told_cell(FLAT, RIGHT, ("feb", "b")))

    def test_not_true_a_cell_beside_a_seen_total_can_always_be_worked_out(self):
        """[0.21]: two hidden cells stand beneath the total."""
        right = Right({"shop": ("b",)}, (("all", "both"),))
        self.assertEqual(leaks(FLAT, right), ())
        fillings = hidden_fillings(FLAT, right, JAN_B)
        self.assertTrue(are_right_fillings(FLAT, right, JAN_B, fillings))
        self.assertTrue(are_hidden_fillings(FLAT, right, JAN_B, fillings))

    def test_cells_told_by_several_granted_places(self):
        # b of January by the sum and the difference, though both its leaves are hidden
        side = Side("shop", ("a", "b", "c"), (("sums", (("both", (("a", ONE), ("b", ONE))),)),
                                              ("less", (("diff", (("a", ONE), ("b", (-1, 1)))),))))
        outline = Outline((FLAT.sides[0], side))
        right = Right({"shop": ("a", "b")}, (("jan", "both"), ("jan", "diff")))
        self.assertEqual(told_cell(outline, right, JAN_B), {("jan", "both"): (1, 2), ("jan", "diff"): (-1, 2)})
        self.assertEqual(leaks(outline, right), (JAN_A, JAN_B))
        # each one is harmless alone
        for place in right.granted:
            self.assertEqual(leaks(outline, Right({"shop": ("a", "b")}, (place,))), ())

    def test_totals_that_meet_in_one_cell(self):
        """Granted totals of a row and a column leave their crossing hidden, with one cell more they do not."""
        right = Right({"shop": ("b",), "time": ("jan",)}, (("all", "a"), ("all", "both"), ("feb", "both"), ("jan", "both")))
        self.assertEqual(leaks(FLAT, right), (("feb", "b"), ("jan", "a"), ("jan", "b"), ("mar", "b")))

    def test_cells_that_are_seen_themselves(self):
        for right in (RIGHT, Right({}), Right({"time": ("mar",)}, ((JAN_A),))):
            self.assertEqual(told_cell(FLAT, right, JAN_A), {JAN_A: ONE})
            self.assertIsNone(hidden_fillings(FLAT, right, JAN_A))
            self.assertTrue(is_told_cell(FLAT, right, JAN_A, {JAN_A: ONE}))
        # a granted leaf place that is hidden
        right = Right({"shop": ("b",)}, (JAN_B,))
        self.assertEqual((told_cell(FLAT, right, JAN_B), leaks(FLAT, right)), ({JAN_B: ONE}, (JAN_B,)))
        # one mixture of several
        right = Right({"shop": ("b",)}, (("jan", "both"), ("jan", "diff")))
        for mixture in ({JAN_A: (-1, 1), ("jan", "both"): ONE}, {JAN_A: ONE, ("jan", "diff"): (-1, 1)},
                        {("jan", "both"): (1, 2), ("jan", "diff"): (-1, 2)}):
            self.assertTrue(is_told_cell(FLAT, right, JAN_B, mixture))
        self.assertTrue(is_told_cell(FLAT, right, JAN_A, {("jan", "both"): (1, 2), ("jan", "diff"): (1, 2)}))

    def test_judging_mixtures(self):
        good = {JAN_A: (-1, 1), ("jan", "both"): ONE}
        wrong = [{JAN_A: ONE, ("jan", "both"): ONE}, {("jan", "both"): ONE}, {**good, ("feb", "a"): ZERO},
                 {**good, ("feb", "a"): ONE}, {JAN_B: ONE}, {},
                 {JAN_A: (-2, 2), ("jan", "both"): ONE}, {JAN_A: (-1, 1), ("jan", "both"): (True, 1)},
                 {JAN_A: -1, ("jan", "both"): 1}, list(good.items()),
                 {**good, ("mar", "both"): ZERO}, {**good, ("jan", "c"): ZERO}, {**good, 3: ONE}, {**good, ("feb", "b"): ONE},
                 {JAN_A: None, ("jan", "both"): ONE},
                 # places of the cut outline that are groups are no seen places here
                 {("jan", "diff"): (-1, 1), JAN_A: ONE}]
        for value in wrong + odd_values():
            self.assertFalse(is_told_cell(FLAT, RIGHT, JAN_B, value), value)
        self.assertTrue(is_told_cell(FLAT, RIGHT, JAN_B, good))
        self.assertFalse(is_told_cell(FLAT, RIGHT, ("feb", "b"), good))

    def test_judging_fillings(self):
        zeros = {place: ZERO for place in FLAT.leaf_places()}
        ones = {**zeros, ("feb", "b"): ONE}
        for good in ((zeros, ones), (ones, zeros), ({**zeros, JAN_A: (3, 7)}, {**ones, JAN_A: (3, 7)}),
                     ({**zeros, ("mar", "b"): ONE}, ones),
                     ({**zeros, ("feb", "b"): (10 ** 59, 7)}, ones)):
            self.assertTrue(are_hidden_fillings(FLAT, RIGHT, ("feb", "b"), good))
        lacking = {place: worth_at for place, worth_at in ones.items() if place != JAN_B}
        for value in [(zeros, zeros), (zeros, {**ones, JAN_A: ONE}), (zeros, {**ones, JAN_B: ONE}), (zeros, lacking),
                      (zeros, {**ones, ("jan", "both"): ONE}),
                      [zeros, ones], (zeros,), (zeros, ones, ones), (zeros, {**ones, JAN_A: None}), (zeros, {**ones, ("feb", "b"): (2, 2)}),
                      (zeros, {**ones, ("feb", "b"): (True, 1)}), (zeros, None), (lacking, ones),
                      (zeros, {**lacking, ("jan", "c"): ZERO})] + odd_values():
            self.assertFalse(are_hidden_fillings(FLAT, RIGHT, ("feb", "b"), value), value)
        self.assertFalse(are_hidden_fillings(FLAT, RIGHT, JAN_A, (zeros, ones)))

    def test_wrong_arguments(self):
        for function, more in ((told_cell, ()), (hidden_fillings, ()), (is_told_cell, (None,)), (are_hidden_fillings, (None,))):
            for value in odd_values():
                if value is not FLAT:
                    self.assert_raises(InvalidOutline, function, value, None, None, *more)
                    self.assert_raises(InvalidOutline, leaks, value, None)
                self.assert_raises(InvalidQuestion, function, FLAT, value, None, *more)
                self.assert_raises(InvalidQuestion, leaks, FLAT, value)
                self.assert_raises(InvalidPlace, function, FLAT, RIGHT, value, *more)
            self.assert_raises(InvalidPlace, function, FLAT, RIGHT, ("jan", "both"), *more)
            self.assert_raises(InvalidQuestion, function, FLAT, Right({"shop": ("c",)}), None, *more)
        self.assert_raises(InvalidOutline, told_cell, SOME, RIGHT, JAN_B)

    def test_three_hundred_leaf_places_and_more(self):
        names = tuple(f"n{n}" for n in range(30))
        tree = (("h", (("all", tuple((name, ONE) for name in names)),)),)
        outline = Outline((Side("p", names, tree), Side("q", names[:10])))
        right = Right({"p": ("n3",)}, (("all", "n4"),))
        self.assertEqual(leaks(outline, right), (("n3", "n4"),))
        self.assertEqual(len(told_cell(outline, right, ("n3", "n4"))), 30)
        fillings = hidden_fillings(outline, right, ("n3", "n5"))
        self.assertTrue(are_hidden_fillings(outline, right, ("n3", "n5"), fillings))
        wider = Outline((Side("p", names, tree), Side("q", names[:11])))
        for function, more in ((told_cell, (("n3", "n4"),)), (hidden_fillings, (("n3", "n4"),)), (is_told_cell, (("n3", "n4"), {})),
                               (leaks, ()),
                               (are_hidden_fillings, (("n3", "n4"), None))):
            self.assertEqual(self.assert_raises(TooMany, function, wider, right, *more).limit, 300)
        self.assert_raises(InvalidPlace, told_cell, wider, right, ("n3", "all"))

    def test_twenty_granted_places(self):
        names = tuple(f"n{n}" for n in range(20))
        tree = (("h", (("all", tuple((name, (n + 1, 1)) for n, name in enumerate(names[:15]))),)),)
        outline = Outline((Side("p", names[:15], tree), Side("q", names)))
        right = Right({"p": ("n0", "n1")}, tuple(sorted(("all", name) for name in names)))
        self.assertEqual(leaks(outline, right), ())
        right = Right({"p": ("n1",)}, right.granted)
        self.assertEqual(leaks(outline, right), tuple(sorted(("n1", name) for name in names)))
        self.assertTrue(is_told_cell(outline, right, ("n1", "n7"), told_cell(outline, right, ("n1", "n7"))))


class Drawn(unittest.TestCase, Checks):
    def outline(self, chance):
        while True:
            outline = chance.outline()
            if len(list(outline.leaf_places())) <= 16:
                return outline

    def right(self, chance, outline):
        hidden = {}
        for side in outline.sides:
            leaves = chance.random.sample(side.leaves, chance.random.randint(0, len(side.leaves) - 1))
            if leaves:
                hidden[side.name] = tuple(sorted(leaves))
        places = list(outline.places())
        return Right(hidden, tuple(sorted(chance.random.sample(places, min(len(places), chance.random.randint(0, 6))))))

    def test_what_is_told_and_what_is_not(self):
        kinds = {True: 0, False: 0}
        for seed in range(150):
            chance = Chance(f"what is hidden {seed}")
            outline = self.outline(chance)
            right = self.right(chance, outline)
            found = []
            for place in sorted(outline.leaf_places()):
                told, fillings = told_cell(outline, right, place), hidden_fillings(outline, right, place)
                expected = is_told_by_rank(outline, right, place)
                self.assertEqual((told is not None, fillings is None), (expected, expected))
                if told is not None:
                    self.assertTrue(is_right_mixture(outline, right, place, told))
                    self.assertTrue(is_told_cell(outline, right, place, told))
                    self.changed(outline, right, place, told)
                else:
                    self.assertTrue(are_right_fillings(outline, right, place, fillings))
                    self.assertTrue(are_hidden_fillings(outline, right, place, fillings))
                if place in hidden_places(outline, right):
                    kinds[expected] += 1
                    found += [place] if expected else []
            self.assertEqual(leaks(outline, right), tuple(found))
        self.assertGreater(min(kinds.values()), 50)

    def changed(self, outline, right, place, told):
        """A mixture in which one worth is changed, or left out, is none."""
        for one in told:
            for other in ({**told, one: worth(told[one][0] + told[one][1], told[one][1])}, {key: told[key] for key in told if key != one}):
                expected = is_right_mixture(outline, right, place, other) if ZERO not in other.values() else False
                self.assertEqual(is_told_cell(outline, right, place, other), expected)

    def test_further_granted_places_only_add(self):
        """[20.5]"""
        for seed in range(150):
            chance = Chance(f"further granted {seed}")
            outline = self.outline(chance)
            right = self.right(chance, outline)
            self.assertEqual(leaks(outline, Right(right.hidden)), ())
            before = ()
            for many in range(len(right.granted) + 1):
                now = leaks(outline, Right(right.hidden, right.granted[:many]))
                self.assertLessEqual(set(before), set(now))
                before = now

    def test_drawn_fillings_are_judged(self):
        kinds = {True: 0, False: 0}
        for seed in range(200):
            chance = Chance(f"judged fillings {seed}")
            outline = self.outline(chance)
            right = self.right(chance, outline)
            right = Right(right.hidden, right.granted[:chance.random.randint(0, 1)])
            place = chance.one_of(hidden_places(outline, right) or outline.leaf_places())
            one = {leaf: chance.worth() for leaf in outline.leaf_places()}
            other = {leaf: one[leaf] if chance.random.random() < 0.7 else chance.worth() for leaf in one}
            if chance.random.random() < 0.5:
                other = {leaf: one[leaf] if leaf not in hidden_places(outline, right) else chance.worth() for leaf in one}
            expected = are_right_fillings(outline, right, place, (one, other))
            kinds[expected] += 1
            self.assertEqual(are_hidden_fillings(outline, right, place, (one, other)), expected)
        self.assertGreater(min(kinds.values()), 10)


if __name__ == "__main__":
    unittest.main()
