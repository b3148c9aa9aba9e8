"""Long chains, long rings, and a place that sums all leaf places: nothing depends on deep recursion."""

import sys
import unittest

from sumstead.ask.sets import members_of
from sumstead.errors import Refused
from sumstead.outline.outlines import Outline, Side
from sumstead.plain.cubes import Cube
from sumstead.plain.forms import Form, form_of
from sumstead.plain.rules import Rule
from sumstead.plain.weights import answer_by, answer_by_leaves, leaf_weights

from examples import HERE, ONE, number

MANY = 27
NAMES = tuple(f"n{index}" for index in range(MANY))
FIRST, LAST = NAMES[0], NAMES[-1]
LONG = Outline(tuple(Side(name, NAMES) for name in ("p", "q", "r")))
ALL = list(LONG.leaf_places())
STEP = ("step", -1)
BACK = (("at", (("r", STEP),)),
        ("at", (("q", STEP), ("r", ("to", LAST)))),
        ("at", (("p", STEP), ("q", ("to", LAST)), ("r", ("to", LAST)))))
AREAS = ((None, None, None), (None, None, (FIRST,)), (None, (FIRST,), (FIRST,)))
BEGIN = ((FIRST,), (FIRST,), (FIRST,))


def chain(told, first):
    """Each place is told by the one ahead, as a function of its formula tells; the first one by its own formula."""
    rules = [Rule(area, told(back), rank) for rank, (area, back) in enumerate(zip(AREAS, BACK))]
    return Cube(LONG, tuple(rules) + (Rule(BEGIN, first, 3),), {})


def twice(back):
    return ("over", ("plus", back, back), number(2))


def same(back):
    return back


class Chains(unittest.TestCase):
    def setUp(self):
        self.limit = sys.getrecursionlimit()
        sys.setrecursionlimit(250)

    def tearDown(self):
        sys.setrecursionlimit(self.limit)

    def test_a_chain(self):
        for told in (same, twice):
            cube = chain(told, number(7))
            self.assertEqual(cube.answer(ALL[-1]), ("worth", (7, 1)))
            self.assertEqual(cube.needs(ALL[-1]), (ALL[-2],))
            cube = chain(told, number(7))
            self.assertEqual(cube.needs(ALL[-1]), (ALL[-2],))
            for order in ((0, 1, 2), (2, 0, 1)):
                self.assertEqual(answer_by(cube, ALL[-1], order), ("worth", (7, 1)))
                self.assertEqual(form_of(cube, ALL[-1], order=order), Form((7, 1), {}, True))
            found = members_of(chain(told, number(7)), ALL[-1], "r", ("filter", ("leaves",), ("same", HERE, number(7))))
            self.assertEqual(found, ("members", NAMES))

    def test_a_chain_from_a_cell(self):
        names = NAMES[:20]
        outline = Outline((Side("p", names + ("x",)), Side("q", NAMES), Side("r", NAMES)))
        rules = []
        for rank, (area, back) in enumerate(zip(AREAS, BACK)):
            rules.append(Rule((tuple(sorted(names)), area[1], area[2]), twice(back), rank))
        source = ("x", FIRST, FIRST)
        rules.append(Rule(BEGIN, ("at", (("p", ("to", "x")),)), 3))
        cube = Cube(outline, tuple(rules), {source: (3, 4)})
        end = (names[-1], LAST, LAST)
        self.assertEqual(cube.answer(end), ("worth", (3, 4)))
        self.assertEqual(form_of(cube, end), Form((0, 1), {source: ONE}, False))
        self.assertEqual(cube.with_cells({source: None}).answer(end), ("nothing",))

    def test_a_running_total(self):
        """Each place adds a cell to the one ahead: the form has as many weights as the chain has places."""
        names = NAMES[:21]
        last = names[-1]
        backs = (("at", (("r", STEP),)), ("at", (("q", STEP), ("r", ("to", last)))),
                 ("at", (("p", STEP), ("q", ("to", last)), ("r", ("to", last)))))
        outline = Outline(tuple(Side(name, names) for name in "pqr") + (Side("s", ("in", "out")),))
        inflow = ("at", (("s", ("to", "in")),))
        rules = [Rule(area + (("out",),), ("plus", back, inflow), rank)
                 for rank, (area, back) in enumerate(zip(AREAS, backs))]
        rules.append(Rule(BEGIN + (("out",),), inflow, 3))
        places = [place for place in outline.places() if place[3] == "in"]
        cube = Cube(outline, tuple(rules), {place: ONE for place in places[::40]})
        end = (last, last, last, "out")
        self.assertEqual(cube.answer(end), ("worth", (len(cube), 1)))
        self.assertEqual(form_of(cube, end), Form((0, 1), {place: ONE for place in places}, False))

    def test_a_refusal_at_the_end_of_a_chain(self):
        cube = chain(twice, ("over", number(1), number(0)))
        reason = ("zero", ALL[0])
        self.assertEqual(cube.needs(ALL[-1]), (ALL[-2],))
        for place in (ALL[-1], ALL[5], ALL[0]):
            self.assertEqual(cube.answer(place), ("refused", reason))
        self.assertEqual(answer_by(cube, ALL[-1], (2, 1, 0)), ("refused", reason))
        self.assertEqual(members_of(cube, ALL[-1], "r", ("order", ("leaves",), HERE, "up")), ("refused", reason))
        with self.assertRaises(Refused) as caught:
            form_of(cube, ALL[-1])
        self.assertEqual(caught.exception.reason, ("rule", 3))

    def test_doubling_up_to_great(self):
        cube = chain(lambda back: ("plus", back, back), number(1))
        # 2 ** 3321 has 1000 digits, 2 ** 3322 has 1001.
        self.assertEqual(cube.answer(ALL[3321]), ("worth", (2 ** 3321, 1)))
        for place in (ALL[3322], ALL[3323], ALL[-1]):
            self.assertEqual(cube.answer(place), ("refused", ("great", ALL[3322])))
        self.assertEqual(form_of(cube, ALL[3321]), Form((2 ** 3321, 1), {}, True))
        with self.assertRaises(Refused) as caught:
            form_of(cube, ALL[-1])
        self.assertEqual(caught.exception.reason, ("great", ALL[3322]))

    def test_a_ring(self):
        to_last = tuple((name, ("to", LAST)) for name in "pqr")
        ring = (ALL[0],) + tuple(ALL[:0:-1])
        least = ring.index(min(ring))
        reason = ("ring", ring[least:] + ring[:least])
        for place in (ALL[-1], ALL[0], ALL[9999]):
            cube = chain(twice, ("at", to_last))
            self.assertEqual(cube.answer(place), ("refused", reason))
            self.assertEqual(cube.answer(ALL[77]), ("refused", reason))
        self.assertEqual(cube.needs(ALL[0]), (ALL[-1],))
        self.assertEqual(answer_by(cube, ALL[3], (1, 0, 2)), ("refused", reason))
        self.assertEqual(members_of(cube, ALL[3], "q", ("best", ("all",), 3, HERE)), ("refused", reason))
        with self.assertRaises(Refused) as caught:
            form_of(cube, ALL[3])
        self.assertEqual(caught.exception.reason, reason)


class Sums(unittest.TestCase):
    def make(self):
        names = NAMES[:-1]
        sides = []
        for name in ("p", "q", "r"):
            sides.append(Side(name, names, (("h", (("top", tuple((leaf, ONE) for leaf in names)),)),)))
        outline = Outline(tuple(sides))
        self.assertEqual(outline.total, 27 ** 3)
        cells = {place: (index, 7) for index, place in enumerate(list(outline.leaf_places())[:2000:7]) if index % 7}
        return Cube(outline, (), cells)

    def test_all_leaf_places(self):
        cube = self.make()
        top = ("top", "top", "top")
        tops = [worth[0] for worth in cube.cells.values()]
        expected = ("worth", (sum(tops) // 7, 1)) if sum(tops) % 7 == 0 else ("worth", (sum(tops), 7))
        self.assertEqual(cube.answer(top), expected)
        self.assertEqual(cube.needs(top), tuple((name, "top", "top") for name in NAMES[:-1]))
        self.assertEqual(answer_by(cube, top, (2, 1, 0)), expected)
        self.assertEqual(answer_by_leaves(cube, top), expected)
        weights = leaf_weights(cube.outline, top)
        self.assertEqual(len(weights), 26 ** 3)
        for order in (None, (1, 2, 0)):
            self.assertEqual(form_of(cube, top, order=order), Form((0, 1), weights, False))
        found = members_of(cube, top, "p", ("best", ("all",), 1, ("at", (("q", ("to", "top")), ("r", ("to", "top"))))))
        self.assertEqual(found, ("members", ("top",)))

    def test_by_a_formula(self):
        cube = self.make()
        top = ("top", "top", "top")
        node = ("sum", "p", ("leaves",), ("sum", "q", ("leaves",), HERE))
        ruled = cube.with_rules((Rule((("top",), ("top",), ("top",)), node),))
        self.assertEqual(ruled.answer(top), cube.answer(top))
        self.assertEqual(len(ruled.needs(top)), 26 ** 2)
        self.assertEqual(form_of(ruled, top), form_of(cube, top))


if __name__ == "__main__":
    unittest.main()
