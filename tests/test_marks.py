import sys
import time
import unittest

from sumstead.errors import InvalidCube, InvalidOperation, InvalidPlace, Refused
from sumstead.kept.marks import (answer_marked, is_enough, is_least_marks, is_missed, is_traced, least_marks, missed,
                                 wide_word)
from sumstead.outline.outlines import Outline, Side
from sumstead.plain.cubes import Cube
from sumstead.plain.rules import Rule

from chance import Chance
from examples import FLAT, HERE, LOOP, NOTHING, ONE, RULED, SOME, Checks, number, odd_values, to
from plainly import Plain
from test_chains import ALL as PLACES, AREAS, BEGIN, LONG, NAMES, STEP, chain, same

RATE, A, B = ("feb", "diff"), ("feb", "a"), ("jan", "a")
WORDS = ("nothing", "there", "trouble")
AT_A, AT_B = to(("shop", "a")), to(("shop", "b"))
LEAVES = tuple(sorted(FLAT.leaf_places()))


class Wide(Plain):
    """A second wide reading, by recursion. Levels are 0, 1 and 2."""

    def __init__(self, cube, there):
        Plain.__init__(self, cube)
        self.there = set(there)
        self.comes_to_choice = False
        self.worst = 0
        self.known = {}

    def level(self, place, opened=()):
        if place in opened:
            return 2
        # What is told on the way into a ring is trouble anyway; what was told without one is told so again.
        if place not in self.known:
            self.known[place] = self.work(place, opened + (place,))
            self.worst = max(self.worst, self.known[place])
        return self.known[place]

    def work(self, place, opened):
        index = self.rule_at(place)
        if index is not None:
            # No name in random cubes is "if".
            if "'if'" in str(self.rules[index].formula):
                self.comes_to_choice = True
            return self.node(self.rules[index].formula, place, opened)
        for at, side in enumerate(self.sides):
            if place[at] not in side.leaves:
                return max([self.level(place[:at] + (child,) + place[at + 1:], opened)
                            for child, _ in side.children(place[at])])
        return int(place in self.there)

    def operands(self, test, asked, opened):
        if test[0] in ("not", "both", "either"):
            return [level for part in test[1:] for level in self.operands(part, asked, opened)]
        return [self.node(part, asked, opened) for part in test[1:]]

    def node(self, node, asked, opened):
        word = node[0]
        if word in ("worth", "nothing"):
            return int(word == "worth")
        if word == "at":
            goal = self.moved(asked, node[1])
            return 0 if goal is None else self.level(goal, opened)
        if word in ("sum", "first", "last"):
            index = self.names.index(node[1])
            levels = [self.node(node[3], asked[:index] + (member,) + asked[index + 1:], opened)
                      for member in self.span(self.sides[index], asked[index], node[2])]
            return max(levels, default=0)
        if word == "if":
            tested = self.operands(node[1], asked, opened)
            branches = [self.node(part, asked, opened) for part in node[2:]]
            return 2 if 2 in tested else max(branches)
        one, other = self.node(node[1], asked, opened), self.node(node[2], asked, opened)
        if word in ("plus", "minus"):
            return max(one, other)
        if 2 in (one, other):
            return 2 if word == "times" or node[2][0] != "worth" or one == 2 else one
        if word == "times":
            return min(one, other)
        if node[2][0] == "worth" and node[2][1] != (0, 1):
            return one
        return 2 if one == other == 1 else 0


def word(cube, place, there):
    return WORDS[Wide(cube, there).level(place)]


def without(row, one):
    return tuple(other for other in row if other != one)


def at_b(formula, cube=SOME):
    """A cube in which a formula tells the places of the shop b."""
    return cube.with_rules((Rule((None, ("b",)), formula),))


class WideWords(unittest.TestCase, Checks):
    def test_example(self):
        told = [wide_word(RULED, RATE, (A,)), wide_word(RULED, RATE, (A, B)), is_enough(RULED, RATE, (B,)),
                missed(RULED, RATE, ())]
        self.assertEqual(told, ['nothing', 'trouble', True, (('feb', 'a'), ('jan', 'a'))])

    def test_leaf_places_and_opened_ones(self):
        self.assertEqual([wide_word(SOME, A, there) for there in ((), (A,), (B,))], ["nothing", "there", "nothing"])
        self.assertEqual(wide_word(SOME, ("all", "both"), (A,)), "there")
        self.assertEqual(wide_word(SOME, ("all", "both"), ()), "nothing")
        self.assertEqual(wide_word(SOME, ("all", "b"), (A, B)), "nothing")
        self.assertEqual(wide_word(RULED, ("mar", "diff"), LEAVES), "trouble")
        self.assertEqual(wide_word(RULED, ("all", "both"), ()), "nothing")

    def test_each_kind_of_formula(self):
        """Words of a formula at ("feb", "b"), over no leaf place, and over that of the shop a."""
        zero, quotient = number(0), ("over", AT_A, AT_A)
        for formula, bare, there in (
                (number(3), "there", "there"), (zero, "there", "there"), (NOTHING, "nothing", "nothing"), (AT_A, "nothing", "there"),
                (("at", (("time", ("step", 2)),)), "nothing", "nothing"),
                (("plus", AT_A, NOTHING), "nothing", "there"), (("minus", AT_A, AT_A), "nothing", "there"),
                (("plus", number(1), AT_A), "there", "there"), (("plus", quotient, number(1)), "there", "trouble"),
                (("times", AT_A, number(2)), "nothing", "there"), (("times", AT_A, NOTHING), "nothing", "nothing"),
                (("times", number(0), number(1)), "there", "there"), (("times", quotient, NOTHING), "nothing", "trouble"),
                (("over", AT_A, number(2)), "nothing", "there"), (("over", AT_A, zero), "nothing", "trouble"),
                (("over", number(2), AT_A), "nothing", "trouble"), (("over", NOTHING, AT_A), "nothing", "nothing"),
                (("over", AT_A, NOTHING), "nothing", "nothing"), (("over", number(1), zero), "trouble", "trouble"),
                (("over", quotient, number(2)), "nothing", "trouble"), (("over", NOTHING, quotient), "nothing", "trouble"),
                (("over", number(1), number(1)), "there", "there"), (quotient, "nothing", "trouble"),
                (("if", ("there", AT_A), NOTHING, NOTHING), "nothing", "nothing"),
                (("if", ("there", NOTHING), number(1), NOTHING), "there", "there"),
                (("if", ("there", NOTHING), NOTHING, AT_A), "nothing", "there"),
                (("if", ("there", quotient), NOTHING, NOTHING), "nothing", "trouble"),
                (("if", ("not", ("both", ("below", zero, quotient), ("there", zero))), zero, zero), "there", "trouble"),
                (("if", ("either", ("same", quotient, zero), ("there", zero)), NOTHING, zero), "there", "trouble"),
                (("sum", "time", ("leaves",), AT_A), "nothing", "there"), (("first", "time", ("window", 1), AT_A), "nothing", "there"),
                (("sum", "time", ("children", "year"), number(1)), "nothing", "nothing"),
                (("sum", "time", ("members", ("jan", "mar")), AT_A), "nothing", "nothing"),
                (("last", "time", ("sofar", "year"), ("over", AT_A, AT_A)), "nothing", "trouble"),
                (("sum", "time", ("leaves",), number(1)), "there", "there")):
            cube = at_b(formula)
            self.assertEqual(wide_word(cube, ("feb", "b"), ()), bare, formula)
            self.assertEqual(wide_word(cube, ("feb", "b"), (A,)), there, formula)
            self.assertEqual((word(cube, ("feb", "b"), ()), word(cube, ("feb", "b"), (A,))), (bare, there), formula)

    def test_rings(self):
        for place in LOOP.outline.places():
            expected = "trouble" if place[1] in ("b", "both", "diff") else "there" if place[1] == "a" else None
            self.assertEqual(wide_word(LOOP, place, LEAVES), expected, place)
        self.assertEqual(wide_word(LOOP, ("jan", "a"), ()), "nothing")
        self.assertEqual(wide_word(LOOP, ("jan", "b"), ()), "trouble")
        choice = at_b(("if", ("there", number(1)), number(2), HERE))
        self.assertEqual(choice.answer(("jan", "b")), ("worth", (2, 1)))
        self.assertEqual(wide_word(choice, ("jan", "b"), ()), "trouble")

    def test_random_words(self):
        kinds = {}
        for seed in range(400):
            chance = Chance(seed)
            cube = chance.cube()
            leaves = sorted(cube.outline.leaf_places())
            there = tuple(leaf for leaf in leaves if chance.random.random() < 0.5)
            for place in chance.random.sample(list(cube.outline.places()), min(8, cube.outline.total)):
                told = wide_word(cube, place, there)
                kinds[told] = kinds.get(told, 0) + 1
                self.assertEqual(told, word(cube, place, there), (seed, place))
                # A greater set has no lesser word.
                for more in (leaves, [leaf for leaf in leaves if leaf in there or chance.random.random() < 0.3]):
                    self.assertGreaterEqual(WORDS.index(wide_word(cube, place, tuple(more))), WORDS.index(told))
                # With cells there alone, the plain reading tells no more.
                for _ in range(3):
                    cells = {leaf: chance.worth() for leaf in there if chance.random.random() < 0.7}
                    answer = Cube(cube.outline, cube.rules, cells).answer(place)
                    if told == "nothing":
                        self.assertEqual(answer, ("nothing",))
                    if told == "there":
                        self.assertIn(answer[0], ("worth", "nothing"))
        self.assertTrue(all(kinds[told] > 50 for told in WORDS), kinds)

    def test_traced(self):
        self.assertIs(is_traced(SOME, ("all", "both")), True)
        self.assertIs(is_traced(RULED, ("all", "both")), True)
        self.assertIs(is_traced(RULED, RATE), False)
        self.assertIs(is_traced(LOOP, ("jan", "b")), False)
        self.assertIs(is_traced(LOOP, ("jan", "a")), True)
        self.assertIs(is_traced(at_b(("if", ("there", AT_A), number(1), number(1))), ("jan", "b")), False)
        self.assertIs(is_traced(at_b(("if", ("there", AT_A), number(1), number(1))), ("jan", "a")), True)
        self.assertIs(is_traced(at_b(("over", AT_A, number(2))), ("all", "b")), True)
        self.assertIs(is_traced(at_b(("over", AT_A, number(0))), ("all", "b")), False)

    def test_traced_places_are_read_exactly(self):
        traced = 0
        for seed in range(250):
            chance = Chance(seed)
            cube = chance.cube(linear=seed % 2 == 0)
            leaves = sorted(cube.outline.leaf_places())
            for place in chance.random.sample(list(cube.outline.places()), min(6, cube.outline.total)):
                reading = Wide(cube, leaves)
                reading.level(place)
                expected = not reading.comes_to_choice and reading.worst < 2
                self.assertIs(is_traced(cube, place), expected, (seed, place))
                if not expected:
                    continue
                traced += 1
                cells = {leaf: chance.worth() for leaf in leaves if chance.random.random() < 0.5}
                answer = Cube(cube.outline, cube.rules, cells).answer(place)
                told = wide_word(cube, place, tuple(sorted(cells)))
                self.assertEqual(answer[0], "worth" if told == "there" else "nothing", (seed, place))
        self.assertGreater(traced, 300)


class Marks(unittest.TestCase, Checks):
    def test_enough(self):
        for marks, told in (((), False), ((A,), True), ((B,), True), ((A, B), True), ((("mar", "a"),), False), (LEAVES, True)):
            self.assertIs(is_enough(RULED, RATE, marks), told)
        self.assertIs(is_enough(SOME, ("all", "both"), LEAVES), True)
        self.assertIs(is_enough(SOME, ("all", "both"), LEAVES[1:]), False)
        self.assertIs(is_enough(SOME, ("all", "a"), tuple(leaf for leaf in LEAVES if leaf[1] == "a")), True)
        self.assertIs(is_enough(at_b(number(1)), ("jan", "b"), LEAVES), False)

    def test_missed(self):
        self.assertIsNone(missed(RULED, RATE, (A,)))
        self.assertEqual(len(missed(SOME, ("all", "both"), ())), 1)
        self.assertEqual(missed(SOME, ("all", "both"), LEAVES[1:]), LEAVES[:1])
        self.assertEqual(missed(at_b(number(1)), ("jan", "b"), LEAVES), ())
        self.assertEqual(missed(LOOP, ("jan", "b"), ()), ())
        self.assertIs(is_missed(LOOP, ("jan", "b"), (), ()), True)
        self.assertIs(is_missed(RULED, RATE, (), (A, B)), True)
        for value in ((A,), (B,), (B, A), [A, B], (A, B, ("mar", "a")), (), (A, A), (A, ("jan", "diff")), (A, ("jan",)), "no"):
            self.assertIs(is_missed(RULED, RATE, (), value), False, value)
        self.assertIs(is_missed(RULED, RATE, (A,), (A, B)), False)
        self.assertIs(is_missed(SOME, ("all", "both"), (), (A,)), True)
        self.assertIs(is_missed(SOME, ("all", "both"), (), (("mar", "b"),)), True)
        self.assertIs(is_missed(SOME, ("all", "both"), (), (A, B)), False)

    def test_least_marks(self):
        self.assertIn(least_marks(RULED, RATE), ((A,), (B,)))
        self.assertEqual([is_least_marks(RULED, RATE, marks) for marks in ((A,), (B,), (A, B), (), (("mar", "a"),))],
                         [True, True, False, False, False])
        self.assertEqual(least_marks(SOME, ("all", "both")), LEAVES)
        self.assertEqual(least_marks(at_b(NOTHING), ("jan", "b")), ())
        self.assertIs(is_least_marks(at_b(NOTHING), ("jan", "b"), ()), True)
        self.assertIs(is_least_marks(at_b(NOTHING), ("jan", "b"), (A,)), False)
        for cube in (at_b(number(1)), LOOP):
            self.assertIsNone(least_marks(cube, ("jan", "b")))
            self.assertIs(is_least_marks(cube, ("jan", "b"), LEAVES), False)
        # A leaf place that a rule tells needs no mark.
        self.assertEqual(least_marks(at_b(AT_A), ("jan", "both")), (B,))
        self.assertIs(is_least_marks(at_b(AT_A), ("jan", "both"), (B, ("jan", "b"))), False)

    def test_not_true_enough_for_both_operands(self):
        self.assertIs(is_enough(RULED, RATE, (B,)), True)
        self.assertIs(is_enough(RULED, A, (B,)), False)

    def test_answers(self):
        cube = RULED.with_cells({("jan", "a"): None})
        self.assertEqual(answer_marked(cube, RATE, (B,)), ("nothing",))
        self.assertEqual(answer_marked(RULED, RATE, (B,)), ("worth", (3, 2)))
        self.assertEqual(answer_marked(cube, RATE, (A,)), ("nothing",))
        self.assertEqual(answer_marked(RULED.with_cells({("jan", "a"): (0, 1)}), RATE, (B,)), ("refused", ("zero", RATE)))
        self.assertEqual(self.assert_raises(Refused, answer_marked, RULED, RATE, ()).reason, ("marks",))
        self.assertEqual(self.assert_raises(Refused, answer_marked, RULED, RATE, (("mar", "a"),)).reason, ("marks",))
        self.assertEqual(answer_marked(SOME, ("all", "both"), LEAVES), ("worth", (21, 2)))
        # A cell at a place that a rule tells is a cell, too.
        told = at_b(AT_A).with_cells({("feb", "a"): None, ("jan", "a"): None})
        self.assertEqual(answer_marked(told, ("feb", "b"), (A, ("jan", "b"))), ("nothing",))

    def test_errors(self):
        calls = (wide_word, is_enough, missed, answer_marked, lambda *args: is_missed(*args, None))
        for value in odd_values():
            for call in calls + (lambda *args: is_least_marks(*args), lambda cube, place, _: least_marks(cube, place),
                                 lambda cube, place, _: is_traced(cube, place)):
                if value not in (SOME,):
                    self.assert_raises(InvalidCube, call, value, value, value)
                self.assert_raises(InvalidPlace, call, SOME, value, value)
            for call in calls:
                if value != ():
                    self.assert_raises(InvalidOperation, call, RULED, RATE, value)
            if value != ():
                self.assertIs(is_missed(RULED, RATE, (), value), False)
                self.assertIs(is_least_marks(RULED, RATE, value), False)
        for call in calls:
            for value in ((B, A), (A, A), [A], (("feb", "diff"),), ("feb", "a"), {A: True}):
                self.assert_raises(InvalidOperation, call, RULED, RATE, value)

    def test_random_marks(self):
        kinds = {}
        for seed in range(300):
            chance = Chance(seed)
            cube = chance.cube(linear=seed % 3 == 0)
            places = chance.random.sample(list(cube.outline.places()), min(5, cube.outline.total))
            if seed % 2:
                told = [tuple((member,) for member in place) for place in places[:2]]
                cube = cube.with_rules(tuple(Rule(area, self.product(chance, cube.outline, 3)) for area in told))
            leaves = sorted(cube.outline.leaf_places())
            for place in places:
                marks = tuple(leaf for leaf in leaves if chance.random.random() < 0.4)
                self.check_missed(chance, cube, place, marks, kinds)
                self.check_least(chance, cube, place, leaves, kinds)
        self.assertTrue(all(kinds.get(kind, 0) > 20 for kind in ("enough", "missed", "several", "none", "marks", "choice")), kinds)

    def product(self, chance, outline, depth):
        """A formula of other places alone, mostly of products and quotients."""
        if depth == 0:
            return ("at", tuple((side.name, ("to", chance.one_of(side.leaves))) for side in
                                sorted(outline.sides, key=lambda side: side.name)))
        return (chance.one_of(("times", "over", "times", "plus")), self.product(chance, outline, depth - 1),
                self.product(chance, outline, depth - 1))

    def check_missed(self, chance, cube, place, marks, kinds):
        rest = tuple(leaf for leaf in sorted(cube.outline.leaf_places()) if leaf not in marks)
        enough = word(cube, place, rest) == "nothing"
        self.assertIs(is_enough(cube, place, marks), enough)
        found = missed(cube, place, marks)
        self.assertIs(found is None, enough)
        if enough:
            kinds["enough"] = kinds.get("enough", 0) + 1
            cells = {leaf: chance.worth() for leaf in rest}
            self.assertEqual(Cube(cube.outline, cube.rules, cells).answer(place), ("nothing",))
            there = {leaf: chance.worth() for leaf in marks if chance.random.random() < 0.2}
            other = Cube(cube.outline, cube.rules, {**cells, **there})
            self.assertEqual(answer_marked(other, place, marks), other.answer(place))
            return
        kinds["missed"] = kinds.get("missed", 0) + 1
        kinds["several"] = kinds.get("several", 0) + (len(found) > 1)
        self.assertIs(is_missed(cube, place, marks, found), True)
        self.assertTrue(self.is_least_set(cube, place, found))
        self.assertFalse(set(found) & set(marks))
        if is_traced(cube, place):
            cells = {leaf: chance.worth() for leaf in found}
            self.assertEqual(Cube(cube.outline, cube.rules, cells).answer(place)[0], "worth")
        for value in [without(found, leaf) for leaf in found] + [tuple(sorted(set(found) | {leaf})) for leaf in rest[:2]]:
            self.assertIs(is_missed(cube, place, marks, value), self.is_least_set(cube, place, value))

    def is_least_set(self, cube, place, value):
        if word(cube, place, value) == "nothing":
            return False
        return all(word(cube, place, without(value, leaf)) == "nothing" for leaf in value)

    def check_least(self, chance, cube, place, leaves, kinds):
        found = least_marks(cube, place)
        if found is None:
            kinds["none"] = kinds.get("none", 0) + 1
            self.assertNotEqual(word(cube, place, ()), "nothing")
            self.assertIs(is_least_marks(cube, place, tuple(leaves)), False)
            return
        kinds["marks"] = kinds.get("marks", 0) + 1
        self.assertTrue(self.are_least(cube, place, leaves, found))
        self.assertIs(is_least_marks(cube, place, found), True)
        for _ in range(4):
            value = tuple(leaf for leaf in leaves if (leaf in found) != (chance.random.random() < 0.25))
            expected = self.are_least(cube, place, leaves, value)
            kinds["choice"] = kinds.get("choice", 0) + expected
            self.assertIs(is_least_marks(cube, place, value), expected)

    def are_least(self, cube, place, leaves, marks):
        rest = tuple(leaf for leaf in leaves if leaf not in marks)
        if word(cube, place, rest) != "nothing":
            return False
        return all(word(cube, place, tuple(sorted(rest + (leaf,)))) != "nothing" for leaf in marks)


class LongWays(unittest.TestCase):
    def setUp(self):
        self.limit = sys.getrecursionlimit()
        sys.setrecursionlimit(250)
        self.begin = time.time()

    def tearDown(self):
        sys.setrecursionlimit(self.limit)
        self.assertLess(time.time() - self.begin, 30)

    def test_a_chain(self):
        cube = chain(same, number(7))
        self.assertEqual(wide_word(cube, PLACES[-1], ()), "there")
        self.assertIs(is_traced(cube, PLACES[-1]), True)
        self.assertEqual(missed(cube, PLACES[-1], ()), ())
        self.assertIsNone(least_marks(cube, PLACES[-1]))

    def test_a_ring(self):
        cube = chain(same, ("at", tuple((name, ("to", NAMES[-1])) for name in "pqr")))
        self.assertEqual(wide_word(cube, PLACES[-1], ()), "trouble")
        self.assertEqual(wide_word(cube, PLACES[5], ()), "trouble")
        self.assertIs(is_traced(cube, PLACES[5]), False)

    def running(self, joined):
        """Each place of a chain joins the one ahead and an inflow of its own."""
        names = NAMES[:14]
        backs = (("at", (("r", STEP),)), ("at", (("q", STEP), ("r", ("to", names[-1])))),
                 ("at", (("p", STEP), ("q", ("to", names[-1])), ("r", ("to", names[-1])))))
        outline = Outline(tuple(Side(name, names) for name in "pqr") + (Side("s", ("in", "out")),))
        inflow = ("at", (("s", ("to", "in")),))
        rules = [Rule(area + (("out",),), (joined, back, inflow), rank) for rank, (area, back) in enumerate(zip(AREAS, backs))]
        rules.append(Rule(BEGIN + (("out",),), inflow, 3))
        places = tuple(sorted(place for place in outline.places() if place[3] == "in"))
        return Cube(outline, tuple(rules)), (names[-1], names[-1], names[-1], "out"), places

    def test_a_running_total(self):
        cube, end, places = self.running("plus")
        self.assertEqual(least_marks(cube, end), places)
        self.assertIs(is_least_marks(cube, end, places), True)
        self.assertIs(is_least_marks(cube, end, places[1:]), False)
        self.assertEqual(len(missed(cube, end, places[5:])), 1)
        self.assertIs(is_missed(cube, end, (), places[7:8]), True)

    def test_a_running_product(self):
        cube, end, places = self.running("times")
        self.assertEqual(missed(cube, end, ()), places)
        self.assertIs(is_missed(cube, end, (), places), True)
        self.assertIs(is_missed(cube, end, (), places[1:]), False)
        self.assertEqual(len(least_marks(cube, end)), 1)
        self.assertIs(is_least_marks(cube, end, places[9:10]), True)

    def test_all_leaf_places(self):
        names = NAMES[:26]
        sides = tuple(Side(name, names, (("h", (("top", tuple((leaf, ONE) for leaf in names)),)),)) for name in "pqr")
        cube = Cube(Outline(sides))
        top = ("top", "top", "top")
        places = tuple(sorted(cube.outline.leaf_places()))
        self.assertEqual(least_marks(cube, top), places)
        self.assertEqual(len(missed(cube, top, places[1000:])), 1)
        self.assertIs(is_enough(cube, top, places), True)
        self.assertEqual(LONG.total, 27 ** 3)


if __name__ == "__main__":
    unittest.main()
