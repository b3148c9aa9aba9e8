import unittest

from sumstead.errors import InvalidNumber, InvalidOutline, InvalidPlace, UnknownName
from sumstead.outline import outlines
from sumstead.outline.outlines import Outline, Side, is_cells, same_places

from examples import FLAT, ONE, SHOP, TIME, Checks, nines, odd_values


def row(group, *children):
    return (group, tuple((child, ONE) for child in children))


def leaves(many, letter="l"):
    return tuple(f"{letter}{n}" for n in range(many))


def chain(many):
    """A hierarchy whose leaf x stands so many steps below the top."""
    rows = [row(f"g{n}", f"g{n + 1}") for n in range(many - 1)] + [row(f"g{many - 1}", "x")]
    return (("h", tuple(rows)),)


REGION = Side("region", ("x", "y", "z"),
              (("geo", (("world", (("west", (2, 1)), ("z", (-1, 2)))), ("west", (("y", (3, 1)), ("x", ONE))))),
               ("geo2", (row("rest", "z"),))))


class Constants(unittest.TestCase):
    def test_constants(self):
        told = (outlines.MAX_SIDES, outlines.MAX_LEAVES, outlines.MAX_HIERARCHIES, outlines.MAX_GROUPS,
                outlines.MAX_DEEP, outlines.MAX_PLACES)
        self.assertEqual(told, (5, 30, 3, 20, 6, 20000))


class Sides(unittest.TestCase, Checks):
    def test_example(self):
        told = [SHOP.members, SHOP.children("diff"), SHOP.home("diff"), SHOP.parent("b", "sums"),
                SHOP.parent("both", "sums"), str(SHOP)]
        self.assertEqual(told, [('a', 'b', 'both', 'diff'), (('a', (1, 1)), ('b', (-1, 1))), 'less', 'both', None,
                                'side shop of 2 leaves, 2 hierarchies'])

    def test_properties(self):
        self.assertEqual(REGION.name, "region")
        self.assertEqual(REGION.leaves, ("x", "y", "z"))
        self.assertEqual(REGION.names, ("geo", "geo2"))
        self.assertEqual(REGION.members, ("x", "y", "z", "world", "west", "rest"))
        self.assertEqual(REGION.hierarchies[1], ("geo2", (("rest", (("z", ONE),)),)))
        self.assertEqual(Side("s", ("a",)).hierarchies, ())
        self.assertEqual(Side("s", ("a",)).names, ())

    def test_children_and_homes(self):
        self.assertEqual(REGION.children("world"), (("west", (2, 1)), ("z", (-1, 2))))
        self.assertEqual(REGION.children("x"), ())
        self.assertEqual([REGION.home(member) for member in REGION], [None, None, None, "geo", "geo", "geo2"])

    def test_under(self):
        self.assertEqual(REGION.under("world"), (("y", (6, 1)), ("x", (2, 1)), ("z", (-1, 2))))
        self.assertEqual(REGION.under("west"), (("y", (3, 1)), ("x", ONE)))
        self.assertEqual(REGION.under("x"), (("x", ONE),))

    def test_parents(self):
        told = {("x", "geo"): "west", ("west", "geo"): "world", ("world", "geo"): None, ("z", "geo2"): "rest",
                ("x", "geo2"): None, ("rest", "geo"): None, ("west", "geo2"): None}
        for (member, hierarchy), parent in told.items():
            self.assertEqual(REGION.parent(member, hierarchy), parent)

    def test_children_of_parents(self):
        for side in (TIME, SHOP, REGION):
            for member in side:
                for hierarchy in side.names:
                    parent = side.parent(member, hierarchy)
                    if parent is not None:
                        self.assertIn(member, [child for child, _ in side.children(parent)])

    def test_under_is_made_of_the_children(self):
        for side in (TIME, SHOP, REGION):
            for group in side.members[len(side.leaves):]:
                found = []
                for child, (top, bottom) in side.children(group):
                    for leaf, (high, low) in side.under(child):
                        found.append((leaf, top * high, bottom * low))
                told = [(leaf, high, low) for leaf, (high, low) in side.under(group)]
                self.assertEqual([leaf for leaf, _, _ in found], [leaf for leaf, _, _ in told])
                for (_, a, b), (_, c, d) in zip(found, told):
                    self.assertEqual(a * d, b * c)

    def test_steps(self):
        told = {("jan", 0): "jan", ("jan", 1): "feb", ("jan", 2): "mar", ("jan", 3): None, ("jan", -1): None,
                ("mar", -2): "jan", ("mar", 1): None, ("all", 0): None, ("all", 1): None, ("feb", nines(60)): None,
                ("feb", -nines(60)): None}
        for (member, count), leaf in told.items():
            self.assertEqual(TIME.step(member, count), leaf, (member, count))
        for count in (True, False, None, "1", 10 ** 60, (1,), [], {}, TIME):
            self.assertIs(self.assert_raises(InvalidNumber, TIME.step, "jan", count).given, count)
            self.assert_raises(UnknownName, TIME.step, "apr", count)

    def test_unknown_members(self):
        for value in odd_values() + ["apr", "year", "time", ["jan"], ("jan",)]:
            for call in (TIME.children, TIME.home, TIME.under):
                self.assertIs(self.assert_raises(UnknownName, call, value).asked, value)
            self.assertIs(self.assert_raises(UnknownName, TIME.parent, value, "nowhere").asked, value)
            self.assertIs(self.assert_raises(UnknownName, TIME.step, value, 1).asked, value)
        for value in odd_values() + ["jan", "all", "time", ["year"]]:
            self.assertIs(self.assert_raises(UnknownName, TIME.parent, "jan", value).asked, value)

    def test_in_len_and_iteration(self):
        self.assertEqual(list(SHOP), ["a", "b", "both", "diff"])
        self.assertEqual(len(SHOP), 4)
        self.assertIn("both", SHOP)
        for value in odd_values() + ["sums", "shop", ["a"], ("a",)]:
            self.assertNotIn(value, SHOP)

    def test_equality(self):
        twin = Side("shop", ("a", "b"), SHOP.hierarchies)
        self.assertTrue(twin == SHOP)
        self.assertFalse(twin != SHOP)
        for other in odd_values() + [Side("shop", ("b", "a"), SHOP.hierarchies), Side("shop", ("a", "b")),
                                     Side("shops", ("a", "b"), SHOP.hierarchies), "shop"]:
            self.assertFalse(SHOP == other)
            self.assertTrue(SHOP != other)


class MakingSides(unittest.TestCase, Checks):
    def test_bounds_of_leaves(self):
        Side("s", leaves(30))
        self.assert_raises(InvalidOutline, Side, "s", leaves(31))
        self.assert_raises(InvalidOutline, Side, "s", ())
        self.assert_raises(InvalidOutline, Side, "s", ("a", "a"))

    def test_bounds_of_hierarchies(self):
        trees = tuple((f"h{n}", (row(f"top{n}", "a"),)) for n in range(4))
        Side("s", ("a",), trees[:3])
        self.assert_raises(InvalidOutline, Side, "s", ("a",), trees)
        self.assert_raises(InvalidOutline, Side, "s", ("a",), (trees[0], trees[0]))
        self.assert_raises(InvalidOutline, Side, "s", ("a",), (trees[0], ("h0", (row("other", "a"),))))
        self.assert_raises(InvalidOutline, Side, "s", ("a",), (trees[0], ("other", (row("top0", "a"),))))
        Side("s", ("a",), (("a", (row("s", "a"),)),))

    def test_bounds_of_groups(self):
        def wide(many):
            rows = [("top", tuple((f"g{n}", ONE) for n in range(many - 1)))]
            rows = rows + [row(f"g{n}", f"l{n}") for n in range(many - 1)]
            return (("h", tuple(rows)),)
        Side("s", leaves(30), wide(20))
        self.assert_raises(InvalidOutline, Side, "s", leaves(30), wide(21))
        self.assert_raises(InvalidOutline, Side, "s", leaves(30), (("h", ()),))

    def test_bounds_of_steps(self):
        Side("s", ("x",), chain(6))
        self.assertEqual(Side("s", ("x",), chain(6)).under("g0"), (("x", ONE),))
        self.assert_raises(InvalidOutline, Side, "s", ("x",), chain(7))

    def test_bounds_of_weights(self):
        for weight in ((99, 1), (-99, 10), (1, 10)):
            Side("s", ("a",), (("h", (("top", (("a", weight),)),)),))
        for weight in ((100, 1), (-100, 1), (0, 1), (1, 11), (2, 2), (True, 1), None, 1, [1, 1], "1"):
            self.assert_raises(InvalidOutline, Side, "s", ("a",), (("h", (("top", (("a", weight),)),)),))

    def test_trees(self):
        def make(*rows):
            return Side("s", ("a", "b"), (("h", rows),))
        make(row("top", "g"), row("g", "a"))
        wrong = [
            (row("top", "c"),), (("top", ()),), (row("a", "b"),), (row("top", "top"),),
            (row("top", "a"), row("g", "b")), (row("top", "g"), row("g", "top")), (row("top", "a", "a"),),
            (row("g", "a"), row("top", "g")), (row("top", "g", "g"), row("g", "a")),
            (row("top", "g", "a"), row("g", "a")), (row("top", "g", "k"), row("g", "k"), row("k", "a")),
            (row("top", "a"), row("top", "b")), (row("top", "g"), row("g", "k"), row("k", "g")),
            (row("top", "a"), row("g", "k"), row("k", "b")), (row("Top", "a"),), (row("longer9ame", "a"),),
            (("top", (("a", ONE, ONE),)),), (("top", (("a",),)),), (("top", [("a", ONE)]),), (["top", (("a", ONE),)],),
            (("top", (["a", ONE],)),), (("top", (("a", ONE),), 1),), (("top",),), (None,), (1,), ("top",),
            (("top", ((["a"], ONE),)),), ((["top"], (("a", ONE),)),), (("top", None),),
        ]
        for rows in wrong:
            self.assert_raises(InvalidOutline, make, *rows)

    def test_a_group_of_another_hierarchy_is_no_child(self):
        self.assert_raises(InvalidOutline, Side, "s", ("a", "b"),
                           (("h", (row("top", "a"),)), ("k", (row("other", "top"),))))

    def test_wrong_arguments(self):
        for value in odd_values() + ["abcdefghi", ("a", "b")]:
            self.assert_raises(InvalidOutline, Side, value, ("a",))
            if value != ("a", "b"):
                self.assert_raises(InvalidOutline, Side, "s", value)
            if value != ():
                self.assert_raises(InvalidOutline, Side, "s", ("a",), value)
                self.assert_raises(InvalidOutline, Side, "s", ("a",), (value,))
                self.assert_raises(InvalidOutline, Side, "s", ("a",), (("h", value),))
                self.assert_raises(InvalidOutline, Side, "s", ("a",), ((value, (row("top", "a"),)),))
            self.assert_raises(InvalidOutline, Side, "s", ("a", value))
        self.assert_raises(InvalidOutline, Side, "s", ["a"])
        self.assert_raises(InvalidOutline, Side, "s", "a")


class Outlines(unittest.TestCase, Checks):
    def test_properties(self):
        self.assertEqual(FLAT.sides, (TIME, SHOP))
        self.assertEqual(FLAT.names, ("time", "shop"))
        self.assertEqual(FLAT.total, 16)
        self.assertEqual(len(FLAT), 2)
        self.assertEqual(str(FLAT), "outline of time 4, shop 4")
        self.assertEqual(str(Outline((TIME,))), "outline of time 4")

    def test_places(self):
        self.assertEqual(list(FLAT.places()), [(a, b) for a in TIME for b in SHOP])
        self.assertEqual(list(FLAT.leaf_places()), [(a, b) for a in TIME.leaves for b in SHOP.leaves])
        self.assertEqual(next(FLAT.places()), ("jan", "a"))
        with self.assertRaises(TypeError):
            iter(FLAT)

    def test_sides_by_name(self):
        self.assertEqual(FLAT.side("shop"), SHOP)
        self.assertEqual((FLAT.index("time"), FLAT.index("shop")), (0, 1))
        for value in odd_values() + ["jan", "year", ["time"]]:
            self.assertIs(self.assert_raises(UnknownName, FLAT.side, value).asked, value)
            self.assertIs(self.assert_raises(UnknownName, FLAT.index, value).asked, value)

    def test_leaf_places(self):
        self.assertIs(FLAT.has_leaves(("jan", "a")), True)
        for place in (("all", "a"), ("jan", "diff"), ("all", "both")):
            self.assertIs(FLAT.has_leaves(place), False)

    def test_with_member(self):
        self.assertEqual(FLAT.with_member(("jan", "a"), "shop", "both"), ("jan", "both"))
        self.assertEqual(FLAT.with_member(("jan", "a"), "time", "jan"), ("jan", "a"))
        for value in odd_values():
            self.assert_raises(InvalidPlace, FLAT.with_member, value, value, value)
            self.assertIs(self.assert_raises(UnknownName, FLAT.with_member, ("jan", "a"), value, "zzz").asked, value)
            self.assertIs(self.assert_raises(UnknownName, FLAT.with_member, ("jan", "a"), "shop", value).asked, value)
        self.assertEqual(self.assert_raises(UnknownName, FLAT.with_member, ("jan", "a"), "shop", "jan").asked, "jan")

    def test_wrong_places(self):
        for value in odd_values() + [("jan",), ("jan", "a", "a"), ("a", "jan"), ["jan", "a"], ("jan", None),
                                     ("jan", ["a"]), ({}, "a"), "ja", ("jan", "A")]:
            self.assertNotIn(value, FLAT)
            self.assert_raises(InvalidPlace, FLAT.has_leaves, value)

    def test_bounds(self):
        five = tuple(Side(f"s{n}", ("a",)) for n in range(6))
        self.assertEqual(len(Outline(five[:5])), 5)
        self.assert_raises(InvalidOutline, Outline, five)
        self.assert_raises(InvalidOutline, Outline, ())
        sizes = (25, 20, 10, 4)
        sides = tuple(Side(f"s{n}", leaves(size)) for n, size in enumerate(sizes))
        self.assertEqual(Outline(sides).total, 20000)
        self.assert_raises(InvalidOutline, Outline, (Side("s0", leaves(29)), Side("s1", leaves(23)),
                                                     Side("s2", leaves(30))))
        # 20,001 is 3 * 59 * 113, which no sides have; 20,010 is the least above that they have.
        most = (Side("s0", leaves(30)), Side("s1", leaves(29)), Side("s2", leaves(23)))
        self.assert_raises(InvalidOutline, Outline, most)

    def test_wrong_sides(self):
        for value in odd_values():
            if value not in ((TIME,),):
                self.assert_raises(InvalidOutline, Outline, value)
            self.assert_raises(InvalidOutline, Outline, (TIME, value) if value is not SHOP else ())
        self.assert_raises(InvalidOutline, Outline, [TIME, SHOP])
        self.assert_raises(InvalidOutline, Outline, (TIME, Side("time", ("a",))))
        self.assert_raises(InvalidOutline, Outline, TIME)

    def test_equality(self):
        self.assertTrue(Outline((TIME, SHOP)) == FLAT)
        self.assertFalse(Outline((TIME, SHOP)) != FLAT)
        for other in odd_values() + [Outline((SHOP, TIME)), Outline((TIME,)), (TIME, SHOP), TIME]:
            if other is not FLAT:
                self.assertFalse(FLAT == other)
                self.assertTrue(FLAT != other)


class Cells(unittest.TestCase, Checks):
    def test_cells(self):
        for value in ({}, {("jan", "a"): (0, 1)}, {("mar", "b"): (nines(18), 1000), ("jan", "b"): (-1, 3)}):
            self.assertIs(is_cells(FLAT, value), True)

    def test_no_cells(self):
        for value in odd_values() + [{("all", "a"): ONE}, {("jan", "a"): None}, {("jan", "a"): (2, 2)},
                                     {("jan", "a"): (10 ** 18, 1)}, {("jan", "a"): (1, 1001)}, {("jan",): ONE},
                                     {("jan", "a"): 1}, {("jan", 1): ONE}, {"jan": ONE}, ((("jan", "a"), ONE),)]:
            if value != {}:
                self.assertIs(is_cells(FLAT, value), False, value)

    def test_bound(self):
        wide = Outline((Side("s", leaves(30)), Side("t", leaves(30))))
        places = list(wide.leaf_places())
        self.assertIs(is_cells(wide, {place: ONE for place in places[:300]}), True)
        self.assertIs(is_cells(wide, {place: ONE for place in places[:301]}), False)

    def test_wrong_outlines(self):
        for value in odd_values() + [TIME]:
            if value is not FLAT:
                self.assert_raises(InvalidOutline, is_cells, value, {})
                self.assert_raises(InvalidOutline, same_places, value, FLAT)
                self.assert_raises(InvalidOutline, same_places, FLAT, value)


class SamePlaces(unittest.TestCase):
    def test_whatever_names_orders_and_weights(self):
        shop = Side("store", ("b", "a"), (("x", (("diff", (("b", (3, 1)),)),)), ("y", (("both", (("a", ONE),)),))))
        self.assertIs(same_places(FLAT, Outline((TIME, shop))), True)
        self.assertIs(same_places(FLAT, FLAT), True)

    def test_unlike_ones(self):
        one = Side("shop", ("a", "b"))
        turned = Side("shop", ("a", "both"), (("h", (("b", (("a", ONE),)), )), ("k", (("diff", (("a", ONE),)),))))
        more = Side("shop", ("a", "b", "c"), SHOP.hierarchies)
        for side in (one, turned, more):
            self.assertIs(same_places(FLAT, Outline((TIME, side))), False)
        self.assertIs(same_places(FLAT, Outline((SHOP, TIME))), False)
        self.assertIs(same_places(FLAT, Outline((TIME,))), False)
        self.assertIs(same_places(Outline((TIME,)), FLAT), False)


if __name__ == "__main__":
    unittest.main()
