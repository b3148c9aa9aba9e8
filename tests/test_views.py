import unittest

from sumstead.errors import InvalidCube, InvalidOutline, InvalidPlace, InvalidQuestion
from sumstead.outline.outlines import Outline, Side
from sumstead.plain.cubes import Cube
from sumstead.plain.rules import Rule
from sumstead.right import views
from sumstead.right.views import Right, View, cut_cube, cut_outline

from chance import Chance
from examples import FLAT, HERE, NOTHING, ONE, RULED, SOME, TIME, Checks, number, odd_values, to
from plainly import Plain

RIGHT = Right({"shop": ("b",)}, (("jan", "both"),))
JAN_BOTH = ("jan", "both")
DEEP = Side("deep", ("a", "b", "c", "d"), (
    ("one", (("top", (("g", ONE), ("d", (3, 1)))), ("g", (("k", ONE), ("m", ONE))), ("k", (("a", ONE),)), ("m", (("b", (2, 1)),)))),
    ("two", (("all", (("a", ONE), ("b", ONE))),)),
    ("last", (("z", (("y", ONE),)), ("y", (("c", ONE), ("a", ONE))))),
))
WIDE = Outline((DEEP, TIME))


class Rights(unittest.TestCase, Checks):
    def test_constant(self):
        self.assertEqual(views.MAX_GRANTED, 20)

    def test_properties(self):
        right = Right({"time": ("feb", "jan"), "shop": ("b",)}, (("jan", "a"), ("jan", "both")))
        self.assertEqual((right.hidden, right.granted), ({"shop": ("b",), "time": ("feb", "jan")}, (("jan", "a"), ("jan", "both"))))
        self.assertEqual(list(right.hidden), ["shop", "time"])
        self.assertEqual(str(right), "right with 3 hidden leaves, 2 granted places")
        self.assertEqual(str(Right({})), "right with 0 hidden leaves, 0 granted places")
        self.assertEqual(Right({}).granted, ())
        self.assertRaises(TypeError, iter, right)
        hidden = {"shop": ("b",)}
        right = Right(hidden)
        hidden["shop"] = ("a",)
        right.hidden.clear()
        self.assertEqual(right.hidden, {"shop": ("b",)})

    def test_equality(self):
        self.assertEqual(Right({"a": ("x",), "b": ("y",)}), Right({"b": ("y",), "a": ("x",)}))
        for other in odd_values() + [Right({"shop": ("b",)}), Right({"shop": ("a",)}, (("jan", "both"),)), Right({}, (JAN_BOTH,))]:
            self.assertFalse(RIGHT == other)
            self.assertTrue(RIGHT != other)

    def test_wrong_arguments(self):
        names = tuple(f"n{n}" for n in range(10, 40))
        for value in odd_values() + [{"shop": ()}, {"shop": ["b"]}, {"shop": ("b", "a")}, {"shop": ("a", "a")}, {"Shop": ("a",)},
                                     {"shop": ("A",)},
                                     {"shop": "a"}, {"shop": (1,)}, {1: ("a",)}, {name: ("a",) for name in names[:6]}, [("shop", ("a",))]]:
            if value != {}:
                self.assert_raises(InvalidQuestion, Right, value)
        for value in odd_values() + [[JAN_BOTH], (("jan", "both"), ("jan", "a")), (JAN_BOTH, JAN_BOTH), ((),), (("a",) * 6,),
                                     ("jan",), (["jan", "both"],),
                                     tuple((name,) for name in names[:21]), ((1, 2),), (("Jan", "both"),), JAN_BOTH]:
            if value != ():
                self.assert_raises(InvalidQuestion, Right, {}, value)
        self.assert_raises(InvalidQuestion, Right, None, None)
        self.assertEqual(len(Right({name: ("a",) for name in names[:5]}, tuple((name,) for name in names[:20])).granted), 20)
        self.assertEqual(len(Right({"a": names}, (("a",) * 5, ("b",))).hidden["a"]), 30)

    def test_suits(self):
        self.assertTrue(RIGHT.suits(FLAT))
        for right in (Right({}), Right({"time": ("feb", "jan"), "shop": ("a",)}), Right({}, tuple(sorted(FLAT.places()))[:16])):
            self.assertTrue(right.suits(FLAT))
        for right in (Right({"shop": ("a", "b")}), Right({"shop": ("c",)}), Right({"shop": ("both",)}), Right({"shops": ("a",)}),
                      Right({"time": ("feb", "jan", "mar")}), Right({}, (("jan",),)), Right({}, (("jan", "c"),)),
                      Right({}, (("a", "jan"), JAN_BOTH)),
                      Right({"shop": ("b",)}, (("jan", "both", "a"),))):
            self.assertFalse(right.suits(FLAT))
            self.assert_raises(InvalidQuestion, cut_outline, FLAT, right)
            self.assert_raises(InvalidQuestion, cut_cube, SOME, right)
            self.assert_raises(InvalidQuestion, View, SOME, right)
        for value in odd_values():
            if value is not FLAT:
                self.assert_raises(InvalidOutline, RIGHT.suits, value)
                self.assert_raises(InvalidOutline, cut_outline, value, None)
            if value is not SOME:
                self.assert_raises(InvalidCube, cut_cube, value, None)
                self.assert_raises(InvalidCube, View, value, None)
            self.assert_raises(InvalidQuestion, cut_outline, FLAT, value)
            self.assert_raises(InvalidQuestion, cut_cube, SOME, value)
            self.assert_raises(InvalidQuestion, View, SOME, value)


class Cutting(unittest.TestCase, Checks):
    def test_the_example(self):
        view = View(SOME, RIGHT)
        self.assertEqual([cut_outline(FLAT, RIGHT).side("shop").members, view.answer(("all", "both")), view.answer(("jan", "both"))],
                         [("a", "both", "diff"), ("worth", (10, 1)), ("worth", (9, 2))])

    def test_outlines(self):
        self.assertEqual(cut_outline(FLAT, Right({})), FLAT)
        side = cut_outline(FLAT, RIGHT).side("shop")
        self.assertEqual(side, Side("shop", ("a",), (("sums", (("both", (("a", ONE),)),)), ("less", (("diff", (("a", ONE),)),)))))
        side = cut_outline(FLAT, Right({"shop": ("a",)})).side("shop")
        self.assertEqual(side.hierarchies[1], ("less", (("diff", (("b", (-1, 1)),)),)))

    def test_groups_and_hierarchies_that_become_empty(self):
        side = cut_outline(WIDE, Right({"deep": ("a", "b")})).sides[0]
        self.assertEqual(side, Side("deep", ("c", "d"), (("one", (("top", (("d", (3, 1)),)),)),
                                                         ("last", (("z", (("y", ONE),)), ("y", (("c", ONE),)))))))
        side = cut_outline(WIDE, Right({"deep": ("a", "b", "d")})).sides[0]
        self.assertEqual(side, Side("deep", ("c",), (("last", (("z", (("y", ONE),)), ("y", (("c", ONE),)))),)))
        side = cut_outline(WIDE, Right({"deep": ("a", "c")})).sides[0]
        self.assertEqual([name for name, _ in side.hierarchies], ["one", "two"])
        self.assertEqual(side.hierarchies[0][1], (("top", (("g", ONE), ("d", (3, 1)))), ("g", (("m", ONE),)), ("m", (("b", (2, 1)),))))
        side = cut_outline(WIDE, Right({"deep": ("a", "b", "c")})).sides[0]
        self.assertEqual(side, Side("deep", ("d",), (("one", (("top", (("d", (3, 1)),)),)),)))

    def test_rows_that_stand_in_another_order(self):
        rows = (("t", (("p", ONE), ("q", ONE))), ("q", (("c", ONE),)), ("p", (("a", ONE), ("b", ONE))))
        side = Side("s", ("a", "b", "c"), (("h", rows),))
        self.assertEqual(cut_outline(Outline((side,)), Right({"s": ("b",)})).sides[0].hierarchies[0][1], rows[:2] + (("p", (("a", ONE),)),))
        self.assertEqual(cut_outline(Outline((side,)), Right({"s": ("c",)})).sides[0].hierarchies[0][1], (("t", (("p", ONE),)), rows[2]))

    def test_cells(self):
        cube = cut_cube(SOME, Right({"shop": ("b",), "time": ("jan",)}))
        self.assertEqual(cube.cells, {("feb", "a"): (6, 1)})

    def test_areas(self):
        rules = (Rule((("a", "b"), None), number(1)), Rule((("a", "k"), ("jan",)), number(2)),
                 Rule((("g", "y"), ("feb", "jan")), number(3), 4),
                 Rule((None, ("jan",)), number(5)))
        cut = cut_cube(Cube(WIDE, rules), Right({"deep": ("a",)}))
        self.assertEqual(cut.rules, (Rule((("b",), None), number(1)), Rule((("g", "y"), ("feb", "jan")), number(3), 4),
                                     Rule((None, ("jan",)), number(5))))
        cut = cut_cube(Cube(WIDE, rules), Right({"deep": ("a", "b"), "time": ("jan",)}))
        self.assertEqual(cut.rules, (Rule((("y",), ("feb",)), number(3), 4),))

    def test_formulas(self):
        hidden = Right({"deep": ("a", "b")})

        def cut(formula, right=hidden):
            return cut_cube(Cube(WIDE, (Rule((None, None), formula, 3),)), right).rules[0].formula
        for formula, expected in (
                (to(("deep", "a")), NOTHING), (to(("deep", "g")), NOTHING), (to(("deep", "all")), NOTHING),
                                  (to(("deep", "c")), to(("deep", "c"))),
                (to(("deep", "c"), ("time", "jan")), to(("deep", "c"), ("time", "jan"))), (to(("deep", "a"), ("time", "jan")), NOTHING),
                (("at", (("deep", ("parent", "two")),)), NOTHING), (("at", (("deep", ("parent", "one")),)),
                                                                    ("at", (("deep", ("parent", "one")),))),
                (("at", (("deep", ("step", 3)),)), ("at", (("deep", ("step", 3)),))), (HERE, HERE),
                (("sum", "deep", ("members", ("b", "d", "g", "c")), HERE), ("sum", "deep", ("members", ("d", "c")), HERE)),
                (("first", "deep", ("members", ("b", "g")), HERE), NOTHING), (("last", "deep", ("children", "two"), number(1)), NOTHING),
                (("last", "deep", ("sofar", "two"), number(1)), NOTHING), (("sum", "deep", ("sofar", "last"), HERE),
                        ("sum", "deep", ("sofar", "last"), HERE)),
                (("sum", "deep", ("children", "one"), to(("deep", "b"))), ("sum", "deep", ("children", "one"), NOTHING)),
                (("sum", "deep", ("leaves",), HERE), ("sum", "deep", ("leaves",), HERE)),
                                  (("sum", "deep", ("window", 9), HERE), ("sum", "deep", ("window", 9), HERE)),
                (("plus", to(("deep", "a")), ("times", number(2), to(("deep", "b")))), ("plus", NOTHING, ("times", number(2), NOTHING))),
                (("if", ("both", ("not", ("there", to(("deep", "a")))), ("either", ("below", HERE, to(("deep", "m"))),
                        ("same", number(1), number(1)))),
                  to(("deep", "c")), to(("deep", "k"))),
                 ("if", ("both", ("not", ("there", NOTHING)), ("either", ("below", HERE, NOTHING), ("same", number(1), number(1)))),
                  to(("deep", "c")), NOTHING)),
                (("over", ("minus", number(1), NOTHING), ("sum", "time", ("members", ("jan",)), to(("deep", "a")))),
                 ("over", ("minus", number(1), NOTHING), ("sum", "time", ("members", ("jan",)), NOTHING)))):
            self.assertEqual(cut(formula), expected)
        # What is hidden at one side does not touch names of another one.
        self.assertEqual(cut(to(("deep", "a")), Right({"time": ("jan",)})), to(("deep", "a")))

    def test_cut_by_two_rights(self):
        done = 0
        for seed in range(600):
            chance = Chance(f"two rights {seed}")
            cube = chance.cube()
            first, second, both = {}, {}, {}
            for side in cube.outline.sides:
                leaves = chance.random.sample(side.leaves, chance.random.randint(0, len(side.leaves) - 1))
                at = chance.random.randint(0, len(leaves))
                for table, part in ((first, leaves[:at]), (second, leaves[at:]), (both, leaves)):
                    if part:
                        table[side.name] = tuple(sorted(part))
            done += bool(first and second)
            one, other, all_at_once = Right(first), Right(second), Right(both)
            expected = cut_cube(cube, all_at_once)
            self.assertEqual(cut_cube(cut_cube(cube, one), other), expected)
            self.assertEqual(cut_cube(cut_cube(cube, other), one), expected)
            self.assertEqual(cut_outline(cut_outline(cube.outline, one), other), expected.outline)
        self.assertGreater(done, 100)


def a_right(chance, outline):
    hidden = {}
    for side in outline.sides:
        leaves = chance.random.sample(side.leaves, chance.random.randint(0, min(2, len(side.leaves) - 1)))
        if leaves:
            hidden[side.name] = tuple(sorted(leaves))
    places = list(outline.places())
    granted = chance.random.sample(places, min(len(places), chance.random.randint(0, 3)))
    return Right(hidden, tuple(sorted(granted)))


class Views(unittest.TestCase, Checks):
    def test_properties(self):
        view = View(RULED, RIGHT)
        self.assertEqual((view.cube, view.right), (cut_cube(RULED, RIGHT), RIGHT))
        self.assertEqual(view.seen, tuple(sorted(cut_outline(FLAT, RIGHT).places())))
        self.assertEqual((len(view), str(view)), (12, "view of 12 places"))
        self.assertRaises(TypeError, iter, view)
        wider = View(RULED, Right({"shop": ("b",)}, (("feb", "b"), ("jan", "both"))))
        self.assertEqual((len(wider), ("feb", "b") in wider, ("jan", "b") in wider), (13, True, False))
        self.assertIn(("feb", "b"), wider.seen)
        for value in odd_values() + [["jan", "a"], ("jan", "b"), ("jan", "c")]:
            self.assertFalse(value in view)
            self.assertIs(self.assert_raises(InvalidPlace, view.answer, value).message, value)

    def test_granted_places_with_hidden_members(self):
        view = View(SOME, Right({"shop": ("b",)}, (("all", "diff"), ("feb", "b"), ("jan", "b"))))
        self.assertEqual([view.answer(place) for place in (("all", "diff"), ("feb", "b"), ("jan", "b"), ("all", "both"))],
                         [("worth", (19, 2)), ("nothing",), ("worth", (1, 2)), ("worth", (10, 1))])

    def test_granted_places_beneath_rules(self):
        """A granted place is told by the rules of the whole cube, all others by those that are left."""
        share = Rule((None, ("a",)), ("over", number(1), to(("shop", "b"))), 1)
        view = View(SOME.with_rules((share,)), Right({"shop": ("b",)}, (("feb", "a"), ("jan", "a"))))
        self.assertEqual([view.answer((month, "a")) for month in TIME.leaves], [("worth", (2, 1)), ("nothing",), ("nothing",)])
        self.assertEqual(view.cube.rules, (Rule((None, ("a",)), ("over", number(1), NOTHING), 1),))
        self.assertEqual(view.answer(("all", "a")), ("nothing",))

    def test_equality(self):
        view = View(SOME, RIGHT)
        self.assertEqual(view, View(SOME, Right({"shop": ("b",)}, (JAN_BOTH,))))
        # hidden cells do not count, unless they change a granted answer
        self.assertEqual(view, View(SOME.with_cells({("feb", "b"): ONE}), RIGHT))
        for other in (View(SOME.with_cells({("jan", "b"): ONE}), RIGHT), View(SOME.with_cells({("feb", "a"): ONE}), RIGHT),
                      View(RULED, RIGHT),
                      View(SOME, Right({"shop": ("b",)})), View(SOME, Right({}, (JAN_BOTH,)))):
            self.assertNotEqual(view, other)
        for value in odd_values():
            self.assertFalse(view == value)
            self.assertTrue(view != value)

    def test_answers_of_drawn_views(self):
        for seed in range(250):
            chance = Chance(f"views {seed}")
            cube = chance.cube()
            right = a_right(chance, cube.outline)
            view = View(cube, right)
            whole, cut = Plain(cube), Plain(cut_cube(cube, right))
            places = sorted({*right.granted, *cut_outline(cube.outline, right).places()})
            self.assertEqual(view.seen, tuple(places))
            for place in cube.outline.places():
                self.assertEqual(place in view, place in places)
                if place in right.granted:
                    self.assertEqual(view.answer(place), whole.answer(place))
                elif place in places:
                    self.assertEqual(view.answer(place), cut.answer(place))
                else:
                    self.assert_raises(InvalidPlace, view.answer, place)

    def test_answers_stay_whatever_hidden_cells_are(self):
        hid = 0
        for seed in range(200):
            chance = Chance(f"hidden cells {seed}")
            cube = chance.cube()
            right = a_right(chance, cube.outline)
            hidden = [place for place in cube.outline.leaf_places()
                      if any(leaf in right.hidden.get(name, ()) for name, leaf in zip(cube.outline.names, place))]
            changed = cube.with_cells({place: chance.one_of((None, chance.worth(), (10 ** 17, 7))) for place in hidden})
            one, other = View(cube, right), View(changed, right)
            hid += cube != changed
            for place in one.seen:
                if place not in right.granted:
                    self.assertEqual(one.answer(place), other.answer(place))
        self.assertGreater(hid, 50)

    def test_what_was_seen_is_what_a_smaller_outline_tells(self):
        """Groups without hidden members are told as they were, if no rule looks elsewhere."""
        view = View(SOME, Right({"time": ("feb",)}))
        for place in view.seen:
            if place[0] != "all":
                self.assertEqual(view.answer(place), SOME.answer(place))
        self.assertEqual(view.answer(("all", "both")), ("worth", (9, 2)))


if __name__ == "__main__":
    unittest.main()
