import unittest

from sumstead.change import edits
from sumstead.change.edits import are_alike, carried, edited, is_script, is_unlike, table_of, unlike_cells
from sumstead.errors import InvalidCells, InvalidCube, InvalidOperation, InvalidOutline, Refused, TooMany
from sumstead.outline.outlines import Outline, Side
from sumstead.plain.cubes import Cube
from sumstead.plain.rules import Rule

import editing
from chance import Chance
from examples import FLAT, GROWTH, HERE, NOTHING, ONE, RULED, SHOP, SOME, TIME, Checks, number, odd_values, raised, to
from plainly import fraction

SPLIT = (("split", "shop", "a", (("n", (1, 3)), ("s", (2, 3)))),)
HALF, MINUS = (1, 2), (-1, 1)
DEEP = Side("deep", ("a", "b", "c", "d", "e"), (
    ("one", (("top", (("g", ONE), ("h", (2, 1)), ("e", ONE))), ("g", (("a", ONE), ("b", (3, 1)))),
             ("h", (("c", HALF), ("d", HALF))))),
    ("two", (("all", (("a", ONE), ("b", ONE), ("c", ONE))),)),
))
WIDE = Outline((DEEP, TIME))
CUBE = Cube(WIDE, (), {("a", "jan"): (1, 1), ("b", "jan"): (3, 1), ("c", "feb"): (5, 1), ("d", "feb"): (7, 1)})


def one_side(leaves, *hierarchies):
    return Outline((Side("s", leaves, hierarchies),))


def rows_behind(outline, edit, hierarchy="one"):
    side = edited(outline, (edit,)).sides[0]
    return [rows for name, rows in side.hierarchies if name == hierarchy][0]


class Forms(unittest.TestCase, Checks):
    def test_constants(self):
        self.assertEqual((edits.MAX_EDITS, edits.MAX_TABLE), (30, 20000))

    def test_edits_of_each_form(self):
        right = [("add", "s", "n"), ("drop", "s", "n"), ("rename", "s", "n", "n"), ("move", "s", "h", "m", "g", 0, (-99, 10)),
                 ("move", "s", "h", "m", "g", 30, ONE), ("group", "s", "h", ("a",), "n"), ("group", "s", "h", ("a", "a"), "n"),
                 ("group", "s", "h", tuple(f"n{n}" for n in range(30)), "n"), ("ungroup", "s", "g"),
                 ("split", "s", "a", (("n", (1, 2)), ("m", (1, 2)))), ("split", "s", "a", (("n", (3, 1)), ("m", (-2, 1)))),
                 ("split", "s", "a", tuple((f"n{n}", (1, 10)) for n in range(10))), ("join", "s", ("a", "b"), "n"),
                 ("join", "s", tuple(f"n{n}" for n in range(30)), "n"), ("weight", "s", "h", "m", (99, 10))]
        for edit in right:
            self.assertTrue(is_script((edit,)), edit)
        wrong = [(), ("add",), ("add", "s"), ("add", "s", "N"), ("add", "S", "n"), ("add", "s", "n", "n"), ("Add", "s", "n"),
                 ["add", "s", "n"], ("add", "s", None), ("add", True, "n"), ("drop", "s", ("n",)), ("rename", "s", "n"),
                 ("rename", "s", "n", "longer9ame"), ("move", "s", "h", "m", "g", 31, ONE), ("move", "s", "h", "m", "g", -1, ONE),
                 ("move", "s", "h", "m", "g", True, ONE), ("move", "s", "h", "m", "g", 0, (0, 1)),
                 ("move", "s", "h", "m", "g", 0, (100, 1)), ("move", "s", "h", "m", "g", 0, (1, 11)),
                 ("move", "s", "h", "m", "g", 0, (2, 2)), ("move", "s", "h", "m", "g", 0, 1), ("group", "s", "h", (), "n"),
                 ("group", "s", "h", ["a"], "n"), ("group", "s", "h", "a", "n"), ("group", "s", "h", ("a", 1), "n"),
                 ("group", "s", "h", tuple(f"n{n}" for n in range(31)), "n"), ("ungroup", "s", "h", "g"),
                 ("split", "s", "a", (("n", ONE),)), ("split", "s", "a", (("n", (1, 2)), ("n", (1, 2)))),
                 ("split", "s", "a", (("n", (1, 2)), ("m", (1, 3)))), ("split", "s", "a", (("n", ONE), ("m", (0, 1)))),
                 ("split", "s", "a", (("n", (100, 1)), ("m", (-99, 1)))), ("split", "s", "a", [("n", HALF), ("m", HALF)]),
                 ("split", "s", "a", (["n", HALF], ("m", HALF))), ("split", "s", "a", (("n", HALF), ("m", (True, 2)))),
                 ("split", "s", "a", tuple((f"n{n}", ONE if n else (-9, 1)) for n in range(11))),
                 ("join", "s", ("a",), "n"), ("join", "s", ("a", "a"), "n"), ("join", "s", ["a", "b"], "n"),
                 ("join", "s", tuple(f"n{n}" for n in range(31)), "n"), ("weight", "s", "h", "m", (0, 1)),
                 ("weight", "s", "h", "m", None), (["add"], "s", "n"), ({}, "s", "n")]
        for edit in wrong + odd_values():
            self.assertFalse(is_script((edit,)), edit)
            self.assertFalse(is_script((("add", "s", "n"), edit)), edit)
        self.assertTrue(is_script(()))
        self.assertTrue(is_script((("add", "s", "n"),) * 30))
        self.assertFalse(is_script((("add", "s", "n"),) * 31))
        self.assertFalse(is_script([("add", "s", "n")]))
        for value in odd_values():
            if value != ():
                self.assertFalse(is_script(value), value)

    def test_wrong_arguments(self):
        for value in odd_values():
            if value is not FLAT:
                self.assert_raises(InvalidOutline, edited, value, ())
                self.assert_raises(InvalidOutline, table_of, value, None)
                self.assert_raises(InvalidOutline, are_alike, value, None, None)
                self.assert_raises(InvalidOutline, unlike_cells, value, None, None)
                self.assert_raises(InvalidOutline, is_unlike, value, None, None, {})
            if value is not SOME:
                self.assert_raises(InvalidCube, carried, value, None)
            if value != ():
                self.assert_raises(InvalidOperation, edited, FLAT, value)
                self.assert_raises(InvalidOperation, carried, SOME, value)
                self.assert_raises(InvalidOperation, table_of, FLAT, value)
                bad = (("drop", "shop", "x"),)
                for function, more in ((are_alike, ()), (unlike_cells, ()), (is_unlike, ({},))):
                    self.assert_raises(InvalidOperation, function, FLAT, value, (), *more)
                    self.assert_raises(InvalidOperation, function, FLAT, bad, value, *more)
            self.assertFalse(is_unlike(FLAT, (), SPLIT, value))


class EachEdit(unittest.TestCase, Checks):
    def test_the_example(self):
        self.assertEqual([edited(FLAT, SPLIT).side("shop").leaves, carried(SOME, SPLIT).cells[("feb", "s")]],
                         [("n", "s", "b"), (4, 1)])

    def test_add_and_drop(self):
        outline = edited(FLAT, (("add", "shop", "c"), ("drop", "time", "feb")))
        self.assertEqual(outline.side("shop"), Side("shop", ("a", "b", "c"), SHOP.hierarchies))
        self.assertEqual(outline.side("time"), Side("time", ("jan", "mar"), (("year", (("all", (("jan", ONE), ("mar", ONE))),)),)))
        self.assertEqual(carried(SOME, (("drop", "time", "jan"),)).cells, {("feb", "a"): (6, 1)})

    def test_rename(self):
        self.assertEqual(edited(FLAT, (("rename", "shop", "a", "z"),)).side("shop").hierarchies[1][1][0][1], (("z", ONE), ("b", MINUS)))
        side = edited(WIDE, (("rename", "deep", "g", "k"), ("rename", "deep", "top", "t"), ("rename", "deep", "e", "e"))).sides[0]
        self.assertEqual(side.hierarchies[0][1][:2], (("t", (("k", ONE), ("h", (2, 1)), ("e", ONE))), ("k", (("a", ONE), ("b", (3, 1))))))
        self.assertEqual(carried(SOME, (("rename", "time", "jan", "all2"),)).cells[("all2", "b")], (1, 2))

    def test_move(self):
        """The index counts the children without the moved member."""
        top = rows_behind(WIDE, ("move", "deep", "one", "e", "top", 0, (2, 1)))[0]
        self.assertEqual(top, ("top", (("e", (2, 1)), ("g", ONE), ("h", (2, 1)))))
        for index, names in ((0, "ghe"), (1, "hge"), (2, "heg"), (3, "heg"), (30, "heg")):
            top = rows_behind(WIDE, ("move", "deep", "one", "g", "top", index, ONE))[0]
            self.assertEqual("".join(child for child, _ in top[1]), names, index)
        rows = rows_behind(WIDE, ("move", "deep", "one", "g", "h", 1, (5, 1)))
        self.assertEqual(rows, (("top", (("h", (2, 1)), ("e", ONE))), ("h", (("c", HALF), ("g", (5, 1)), ("d", HALF))),
                                ("g", (("a", ONE), ("b", (3, 1))))))
        # a leaf that stood nowhere in the hierarchy
        rows = rows_behind(WIDE, ("move", "deep", "two", "e", "all", 1, HALF), "two")
        self.assertEqual(rows[0][1], (("a", ONE), ("e", HALF), ("b", ONE), ("c", ONE)))
        # the only child goes and comes back
        outline = one_side(("a", "b"), ("h", (("t", (("g", ONE), ("b", ONE))), ("g", (("a", ONE),)))))
        self.assertEqual(rows_behind(outline, ("move", "s", "h", "a", "g", 7, HALF), "h")[1], ("g", (("a", HALF),)))

    def test_group_and_ungroup(self):
        rows = rows_behind(WIDE, ("group", "deep", "one", ("g", "h"), "new"))
        self.assertEqual(rows, (("top", (("new", ONE), ("e", ONE))), ("new", (("g", ONE), ("h", (2, 1)))),
                                ("g", (("a", ONE), ("b", (3, 1)))),
                                ("h", (("c", HALF), ("d", HALF)))))
        rows = rows_behind(WIDE, ("group", "deep", "one", ("d",), "new"))
        self.assertEqual(rows[2:], (("h", (("c", HALF), ("new", ONE))), ("new", (("d", HALF),))))
        rows = rows_behind(WIDE, ("ungroup", "deep", "h"))
        self.assertEqual(rows, (("top", (("g", ONE), ("c", ONE), ("d", ONE), ("e", ONE))), ("g", (("a", ONE), ("b", (3, 1))))))
        self.assertEqual(edited(WIDE, (("group", "deep", "one", ("g", "h"), "new"), ("ungroup", "deep", "new"))), WIDE)

    def test_rows_stand_in_the_order_of_the_tree(self):
        rows = (("t", (("p", ONE), ("q", ONE))), ("q", (("c", ONE), ("d", ONE))), ("p", (("r", ONE), ("a", ONE))), ("r", (("b", ONE),)))
        outline = one_side(("a", "b", "c", "d"), ("h", rows), ("k", (("u", (("v", ONE), ("w", ONE))), ("w", (("a", ONE),)),
                                                                     ("v", (("b", ONE),)))))

        def order(edit, at=0):
            return [row[0] for row in edited(outline, (edit,)).sides[0].hierarchies[at][1]]
        self.assertEqual(order(("move", "s", "h", "a", "p", 0, ONE)), ["t", "p", "r", "q"])
        self.assertEqual(order(("group", "s", "h", ("c",), "n")), ["t", "p", "r", "q", "n"])
        self.assertEqual(order(("ungroup", "s", "r")), ["t", "p", "q"])
        # all other edits, and the other hierarchy, leave the rows as they stand
        for edit in (("rename", "s", "p", "z"), ("weight", "s", "h", "p", (2, 1)), ("split", "s", "a", (("x", HALF), ("y", HALF))),
                     ("join", "s", ("c", "d"), "c"), ("drop", "s", "c"), ("add", "s", "n")):
            self.assertEqual([name.replace("z", "p") for name in order(edit)], ["t", "q", "p", "r"], edit)
        self.assertEqual(order(("move", "s", "h", "a", "p", 0, ONE), 1), ["u", "w", "v"])

    def test_split_and_join(self):
        side = edited(WIDE, (("split", "deep", "b", (("b", HALF), ("x", HALF))),)).sides[0]
        self.assertEqual(side.leaves, ("a", "b", "x", "c", "d", "e"))
        self.assertEqual(side.hierarchies[0][1][1], ("g", (("a", ONE), ("b", (3, 1)), ("x", (3, 1)))))
        self.assertEqual(side.hierarchies[1][1][0][1], (("a", ONE), ("b", ONE), ("x", ONE), ("c", ONE)))
        # c stands in both hierarchies, d in one
        self.assertEqual(raised(edited, WIDE, (("join", "deep", ("d", "c"), "n"),)).reason, ("edit", 0, "apart"))
        script = (("move", "deep", "two", "d", "all", 0, ONE), ("join", "deep", ("d", "c"), "n"))
        side = edited(WIDE, script).sides[0]
        # first in the order of the leaves, and in each hierarchy in that of the children
        self.assertEqual(side.leaves, ("a", "b", "n", "e"))
        self.assertEqual(side.hierarchies[1][1][0][1], (("n", ONE), ("a", ONE), ("b", ONE)))
        self.assertEqual(side.hierarchies[0][1][2], ("h", (("n", HALF),)))
        self.assertEqual(carried(CUBE, script).cells, {("a", "jan"): (1, 1), ("b", "jan"): (3, 1), ("n", "feb"): (12, 1)})
        # leaves that stand in no hierarchy
        outline = one_side(("a", "b", "c", "d"))
        self.assertEqual(edited(outline, (("join", "s", ("d", "b"), "d"),)).sides[0].leaves, ("a", "d", "c"))

    def test_weight(self):
        self.assertEqual(rows_behind(WIDE, ("weight", "deep", "one", "h", (7, 3)))[0][1][1], ("h", (7, 3)))
        self.assertEqual(rows_behind(WIDE, ("weight", "deep", "one", "d", (7, 3)))[2][1][1], ("d", (7, 3)))
        self.assertEqual(edited(WIDE, (("weight", "deep", "one", "a", (7, 3)),)).sides[0].hierarchies[1], DEEP.hierarchies[1])

    def test_not_true_a_split_and_a_join_leave_the_outline_as_it_was(self):
        script = (("split", "shop", "b", (("n", HALF), ("s", HALF))), ("join", "shop", ("s", "n"), "b"))
        self.assertEqual(edited(FLAT, script), FLAT)
        self.assertEqual(carried(SOME, script), SOME)
        side = Side("s", ("a", "b"), (("h", (("t", (("a", (1, 1)), ("b", (1, 1)))),)),))
        script = (("split", "s", "a", (("n", HALF), ("m", HALF))), ("move", "s", "h", "m", "t", 30, ONE), ("join", "s", ("m", "n"), "a"))
        self.assertEqual(edited(Outline((side,)), script).sides[0], side)
        # The rows, too, can be others behind it.
        script = (("split", "s", "a", (("n", HALF), ("m", HALF))), ("move", "s", "h", "n", "t", 30, ONE),
                  ("move", "s", "h", "m", "t", 30, ONE), ("join", "s", ("n", "m"), "a"))
        self.assertNotEqual(edited(Outline((side,)), script).sides[0], side)
        self.assertEqual(edited(Outline((side,)), script).sides[0].leaves, ("a", "b"))


class Words(unittest.TestCase, Checks):
    def word(self, outline, *script):
        error = self.assert_raises(Refused, edited, outline, tuple(script))
        self.assertEqual(error.reason[:2], ("edit", len(script) - 1))
        cube_error = self.assert_raises(Refused, carried, Cube(outline), tuple(script))
        self.assertEqual(cube_error.reason, error.reason)
        self.assertEqual(self.assert_raises(Refused, table_of, outline, tuple(script)).reason, error.reason)
        return error.reason[2]

    def test_unknown(self):
        edits_of = [("add", "x", "n"), ("add", "x", "a"), ("drop", "deep", "x"), ("drop", "deep", "g"), ("drop", "x", "a"),
                    ("rename", "deep", "x", "a"),
                    ("move", "deep", "x", "a", "g", 0, ONE), ("move", "deep", "one", "x", "g", 0, ONE),
                    ("move", "deep", "one", "a", "x", 0, ONE),
                    ("move", "deep", "one", "a", "b", 0, ONE), ("move", "deep", "one", "a", "all", 0, ONE),
                    ("move", "deep", "two", "g", "all", 0, ONE),
                    ("move", "deep", "one", "top", "g", 0, ONE), ("group", "deep", "x", ("a",), "n"), ("group", "deep", "one", ("x",), "n"),
                    ("group", "deep", "one", ("a", "x"), "a"), ("group", "deep", "one", ("top",), "n"),
                    ("group", "deep", "one", ("all",), "n"),
                    ("ungroup", "deep", "top"), ("ungroup", "deep", "a"), ("ungroup", "deep", "x"), ("ungroup", "deep", "one"),
                    ("split", "deep", "g", (("n", HALF), ("m", HALF))), ("split", "deep", "x", (("a", HALF), ("b", HALF))),
                    ("join", "deep", ("a", "g"), "n"), ("join", "deep", ("a", "x"), "c"), ("weight", "deep", "x", "a", ONE),
                    ("weight", "deep", "one", "x", ONE),
                    ("weight", "deep", "one", "top", ONE), ("weight", "deep", "two", "d", ONE), ("weight", "deep", "two", "g", ONE)]
        for edit in edits_of:
            self.assertEqual(self.word(WIDE, edit), "unknown", edit)

    def test_taken(self):
        for edit in (("add", "deep", "a"), ("add", "deep", "g"), ("rename", "deep", "a", "b"), ("rename", "deep", "g", "h"),
                     ("rename", "deep", "a", "all"),
                     ("group", "deep", "one", ("a",), "a"), ("group", "deep", "one", ("a", "b"), "all"),
                     ("group", "deep", "one", ("b", "a"), "e"),
                     ("split", "deep", "a", (("a", HALF), ("b", HALF))), ("join", "deep", ("c", "d"), "e"),
                     ("join", "deep", ("a", "e"), "top")):
            self.assertEqual(self.word(WIDE, edit), "taken", edit)
        for edit in (("add", "deep", "one"), ("add", "deep", "jan"), ("add", "deep", "deep"), ("rename", "deep", "a", "a")):
            self.assertIsInstance(edited(WIDE, (edit,)), Outline)

    def test_ring(self):
        self.assertEqual(self.word(WIDE, ("move", "deep", "one", "g", "g", 0, ONE)), "ring")
        script = (("move", "deep", "one", "h", "g", 0, ONE), ("move", "deep", "one", "g", "h", 0, ONE))
        self.assertEqual(self.word(WIDE, *script), "ring")

    def test_apart(self):
        for edit in (("group", "deep", "one", ("a", "c"), "n"), ("group", "deep", "one", ("b", "a"), "n"),
                     ("group", "deep", "one", ("g", "e"), "n"),
                     ("group", "deep", "two", ("d",), "n"), ("group", "deep", "two", ("g",), "n"),
                     ("group", "deep", "one", ("a", "a"), "n"),
                     ("group", "deep", "one", ("a", "b", "c"), "n"), ("join", "deep", ("a", "b"), "n"), ("join", "deep", ("a", "c"), "n"),
                     ("join", "deep", ("c", "d"), "n"), ("join", "deep", ("d", "e"), "d")):
            self.assertEqual(self.word(WIDE, edit), "apart", edit)

    def test_empty(self):
        outline = one_side(("a", "b", "c"), ("h", (("t", (("g", ONE), ("b", ONE))), ("g", (("a", ONE),)))))
        self.assertEqual(self.word(outline, ("drop", "s", "a")), "empty")
        self.assertEqual(self.word(outline, ("move", "s", "h", "a", "t", 0, ONE)), "empty")
        self.assertEqual(self.word(outline, ("drop", "s", "b"), ("move", "s", "h", "b", "g", 0, ONE)), "unknown")
        self.assertEqual(self.word(outline, ("drop", "s", "b"), ("drop", "s", "a")), "empty")
        self.assertEqual(self.word(one_side(("a", "b")), ("drop", "s", "b"), ("drop", "s", "a")), "empty")

    def test_great(self):
        names = tuple(f"n{n}" for n in range(30))
        full = one_side(names)
        self.assertEqual(edited(one_side(names[:29]), (("add", "s", "n29"),)), full)
        self.assertEqual(self.word(full, ("add", "s", "x")), "great")
        self.assertEqual(self.word(full, ("split", "s", "n0", (("x", HALF), ("y", HALF)))), "great")
        self.assertEqual(self.word(full, ("add", "s", "n1")), "taken")
        # twenty groups
        rows = (("g0", tuple((f"g{n}", ONE) for n in range(1, 20))),) + tuple((f"g{n}", ((names[n], ONE),)) for n in range(1, 20))
        outline = one_side(names, ("h", rows))
        self.assertEqual(self.word(outline, ("group", "s", "h", ("g1",), "x")), "great")
        fewer = edited(outline, (("ungroup", "s", "g19"),))
        self.assertEqual(len(edited(fewer, (("group", "s", "h", ("g1",), "x"),)).sides[0].hierarchies[0][1]), 20)
        # six steps
        rows = tuple((f"g{n}", ((f"g{n + 1}", ONE),)) for n in range(5)) + (("g5", (("n0", ONE),)),)
        outline = one_side(names, ("h", rows))
        self.assertEqual(self.word(outline, ("group", "s", "h", ("n0",), "x")), "great")
        self.assertEqual(self.word(outline, ("move", "s", "h", "n1", "g5", 0, ONE), ("group", "s", "h", ("n1", "n0"), "x")), "great")
        self.assertIsInstance(edited(outline, (("ungroup", "s", "g3"), ("group", "s", "h", ("n0",), "x"))), Outline)
        # weights that are multiplied
        rows = (("t", (("g", (9, 1)), ("k", (1, 5)))), ("g", (("n0", (11, 1)),)), ("k", (("n1", (1, 2)),)))
        outline = one_side(names, ("h", rows))
        self.assertEqual(edited(outline, (("ungroup", "s", "g"), ("ungroup", "s", "k"))).sides[0].hierarchies[0][1][0][1],
                         (("n0", (99, 1)), ("n1", (1, 10))))
        self.assertEqual(self.word(outline, ("weight", "s", "h", "n0", (12, 1)), ("ungroup", "s", "g")), "great")
        self.assertEqual(self.word(outline, ("weight", "s", "h", "n1", (1, 3)), ("ungroup", "s", "k")), "great")

    def test_great_by_places(self):
        names = tuple(f"n{n}" for n in range(27))
        sides = tuple(Side(word, names[:many]) for word, many in (("a", 25), ("b", 25), ("c", 8), ("d", 4)))
        outline = Outline(sides)
        self.assertEqual(outline.total, 20000)
        self.assertEqual(self.word(outline, ("add", "d", "x")), "great")
        self.assertEqual(edited(outline, (("drop", "a", "n0"), ("add", "a", "x"))).total, 20000)

    def test_the_first_word_of_several(self):
        outline = one_side(("a", "b"), ("h", (("t", (("g", ONE), ("b", ONE))), ("g", (("a", ONE),)))))
        # ring ahead of empty; taken ahead of apart; apart ahead of great; empty ahead of great
        self.assertEqual(self.word(outline, ("move", "s", "h", "g", "g", 0, ONE)), "ring")
        self.assertEqual(self.word(outline, ("group", "s", "h", ("a", "b"), "t")), "taken")
        self.assertEqual(self.word(outline, ("join", "s", ("a", "b"), "g")), "taken")
        names = tuple(f"n{n}" for n in range(30))
        rows = tuple((f"g{n}", ((f"g{n + 1}", ONE),)) for n in range(5)) + (("g5", (("n0", ONE), ("n1", ONE))),)
        deep = one_side(names, ("h", rows))
        self.assertEqual(self.word(deep, ("group", "s", "h", ("n1", "n0"), "x")), "apart")
        self.assertEqual(self.word(deep, ("move", "s", "h", "n0", "g4", 0, ONE), ("move", "s", "h", "n1", "g4", 0, ONE)), "empty")

    def test_the_first_edit_that_is_refused(self):
        error = self.assert_raises(Refused, edited, FLAT, (("add", "shop", "c"), ("add", "shop", "c"), ("drop", "shop", "x")))
        self.assertEqual(error.reason, ("edit", 1, "taken"))


class Carrying(unittest.TestCase, Checks):
    def test_rules_get_new_names(self):
        rule = Rule((("a", "c"), None), ("plus", to(("deep", "c"), ("time", "jan")), ("sum", "deep", ("members", ("e", "c")), HERE)), 4)
        other = Rule((("b", "c"), ("feb",)), ("at", (("deep", ("parent", "one")),)))
        cube = CUBE.with_rules((rule, other))
        told = carried(cube, (("rename", "deep", "c", "aa"),)).rules
        self.assertEqual(told, (
            Rule((("a", "aa"), None), ("plus", to(("deep", "aa"), ("time", "jan")), ("sum", "deep", ("members", ("e", "aa")), HERE)), 4),
            Rule((("aa", "b"), ("feb",)), ("at", (("deep", ("parent", "one")),)))))
        # a member of another side with this name keeps it
        side = Side("time", ("c", "d"))
        cube = Cube(Outline((DEEP, side)), (Rule((None, ("c",)), ("sum", "time", ("members", ("c",)), to(("time", "c"), ("deep", "c")))),))
        kept = Rule((None, None), ("sum", "deep", ("members", ("c", "d")), ("first", "time", ("members", ("d", "c")), HERE)))
        told = carried(cube.with_rules((kept,)), (("rename", "time", "c", "z"),)).rules[0]
        self.assertEqual(told, Rule((None, None), ("sum", "deep", ("members", ("c", "d")), ("first", "time", ("members", ("d", "z")), HERE))))
        told = carried(cube, (("rename", "time", "c", "z"),)).rules[0]
        self.assertEqual(told, Rule((None, ("z",)), ("sum", "time", ("members", ("z",)), to(("time", "z"), ("deep", "c")))))

    def test_rules_that_do_not_suit_any_more(self):
        by_area = Rule((("d",), None), HERE)
        by_move = Rule((None, None), ("if", ("there", to(("deep", "h"))), NOTHING, NOTHING))
        by_span = Rule((None, None), ("sum", "deep", ("members", ("e", "d")), HERE))
        fine = Rule((("a",), None), NOTHING)
        cube = CUBE.with_rules((fine, by_move, by_span, by_area))
        for script, reason in (((("drop", "deep", "d"),), ("rule", 0, 2)), ((("add", "deep", "n"), ("ungroup", "deep", "h")),
                ("rule", 1, 1)),
                               ((("split", "deep", "d", (("x", HALF), ("y", HALF))),), ("rule", 0, 2)),
                               ((("rename", "deep", "d", "z"), ("drop", "deep", "z")), ("rule", 1, 2)),
                               ((("drop", "deep", "d"), ("drop", "deep", "x")), ("rule", 0, 2)),
                               ((("drop", "deep", "x"), ("drop", "deep", "d")), ("edit", 0, "unknown"))):
            self.assertEqual(self.assert_raises(Refused, carried, cube, script).reason, reason)
        self.assertEqual(self.assert_raises(Refused, carried, CUBE.with_rules((by_area,)), (("drop", "deep", "d"),)).reason, ("rule", 0, 0))
        # A part with the old name will do.
        self.assertEqual(carried(cube, (("split", "deep", "d", (("x", HALF), ("d", HALF))),)).rules, cube.rules)

    def test_cells_that_are_none_any_more(self):
        nines = 10 ** 18 - 1
        cube = Cube(FLAT, (), {("jan", "a"): (nines, 1), ("jan", "b"): (1, 1)})
        wide = Outline((TIME, Side("shop", ("a", "b"), (("sums", (("both", (("a", ONE), ("b", ONE))),)),))))
        join = (("join", "shop", ("a", "b"), "a"),)
        self.assert_raises(InvalidCells, carried, Cube(wide, (), cube.cells), join)
        self.assertEqual(carried(Cube(wide, (), {("jan", "a"): (nines, 1), ("feb", "b"): (1, 1)}), join).cells,
                         {("feb", "a"): (1, 1), ("jan", "a"): (nines, 1)})
        thirds = Cube(wide, (), {("jan", "a"): (1, 500)})
        self.assert_raises(InvalidCells, carried, thirds, SPLIT)
        self.assertEqual(carried(thirds, (("split", "shop", "a", (("n", HALF), ("s", HALF))),)).cells[("jan", "n")], (1, 1000))
        # An edit behind it would be refused, but this comes first; what would make it right comes too late.
        self.assert_raises(InvalidCells, carried, thirds, SPLIT + (("drop", "shop", "x"),))
        self.assert_raises(InvalidCells, carried, thirds, SPLIT + (("join", "shop", ("n", "s"), "a"),))

    def test_sums_of_nothing_and_of_0(self):
        wide = Outline((TIME, Side("shop", ("a", "b"))))
        cube = Cube(wide, (), {("jan", "a"): (2, 1), ("jan", "b"): (-2, 1), ("feb", "a"): (0, 1)})
        self.assertEqual(carried(cube, (("join", "shop", ("a", "b"), "c"),)).cells, {("feb", "c"): (0, 1), ("jan", "c"): (0, 1)})
        self.assertEqual(carried(cube, SPLIT).cells[("feb", "n")], (0, 1))

    def test_three_hundred_cells_and_one_more(self):
        names = tuple(f"n{n}" for n in range(29))
        outline = Outline((Side("p", names), Side("q", names)))
        places = list(outline.leaf_places())
        cube = Cube(outline, (), {place: ONE for place in places[:271]})
        self.assertEqual(len(places[:271]), 9 * 29 + 10)
        split = ("split", "p", "n0", (("x", HALF), ("y", HALF)))
        self.assertEqual(len(carried(cube, (split,))), 300)
        more = cube.with_cells({places[271]: ONE})
        self.assertEqual(self.assert_raises(TooMany, carried, more, (split, ("drop", "p", "n1"))).limit, 300)
        self.assertEqual(len(carried(more, (("drop", "p", "n1"), split))), 272 - 29 + 29)
        # more cells ahead of cells that are no worths; rules ahead of both
        odd = more.with_cells({places[0]: (1, 999)})
        self.assert_raises(TooMany, carried, odd, (split,))
        self.assert_raises(InvalidCells, carried, odd.with_cells({places[1]: None, places[2]: None}), (split,))
        ruled = odd.with_rules((Rule((("n0",), None), NOTHING),))
        self.assertEqual(self.assert_raises(Refused, carried, ruled, (split,)).reason, ("rule", 0, 0))

    def test_nothing_is_changed(self):
        before = (SOME.cells, SOME.rules, str(SOME.outline))
        carried(SOME, SPLIT)
        self.assertEqual((SOME.cells, SOME.rules, str(SOME.outline)), before)
        self.assertEqual(carried(RULED, ()), RULED)
        self.assertEqual(edited(FLAT, ()), FLAT)
        self.assertEqual(carried(RULED, (("rename", "shop", "diff", "less"),)).answer(("feb", "less")), RULED.answer(("feb", "diff")))
        self.assertEqual(RULED.rules, (GROWTH,))


class Tables(unittest.TestCase, Checks):
    def test_tables(self):
        table = table_of(FLAT, SPLIT)
        self.assertEqual(list(table), sorted(FLAT.leaf_places()))
        self.assertEqual(table[("jan", "a")], ((("jan", "n"), (1, 3)), (("jan", "s"), (2, 3))))
        self.assertEqual(table[("jan", "b")], ((("jan", "b"), ONE),))
        self.assertEqual(table_of(FLAT, (("drop", "shop", "b"),))[("feb", "b")], ())
        self.assertEqual(table_of(FLAT, ()), {place: ((place, ONE),) for place in sorted(FLAT.leaf_places())})

    def test_shares_over_several_ways(self):
        outline = one_side(("a", "b"))
        script = (("split", "s", "a", (("n", HALF), ("m", (-1, 2)), ("k", ONE))), ("join", "s", ("n", "m"), "z"))
        self.assertEqual(table_of(outline, script), {("a",): ((("k",), ONE), (("z",), (0, 1))), ("b",): ((("b",), ONE),)})
        self.assertEqual(carried(Cube(outline, (), {("a",): (4, 1)}), script).cells, {("k",): (4, 1), ("z",): (0, 1)})
        script = script + (("join", "s", ("z", "b"), "y"), ("split", "s", "y", (("y", (2, 1)), ("w", MINUS))))
        self.assertEqual(table_of(outline, script), {("a",): ((("k",), ONE), (("w",), (0, 1)), (("y",), (0, 1))),
                                                     ("b",): ((("w",), MINUS), (("y",), (2, 1)))})

    def test_alike_and_unlike(self):
        back = SPLIT + (("join", "shop", ("s", "n"), "a"),)
        self.assertTrue(are_alike(FLAT, back, ()))
        self.assertIsNone(unlike_cells(FLAT, back, ()))
        # Groups and weights carry no cells.
        self.assertTrue(are_alike(FLAT, (("group", "shop", "sums", ("a", "b"), "x"), ("weight", "shop", "less", "a", HALF)), ()))
        self.assertFalse(are_alike(FLAT, SPLIT, ()))
        self.assertIn(unlike_cells(FLAT, SPLIT, ()), [{(month, "a"): ONE} for month in TIME.leaves])
        self.assertTrue(is_unlike(FLAT, SPLIT, (), {("feb", "a"): (7, 1)}))
        self.assertFalse(is_unlike(FLAT, SPLIT, (), {("feb", "b"): ONE}))
        self.assertFalse(is_unlike(FLAT, SPLIT, (), {}))
        self.assertTrue(is_unlike(FLAT, SPLIT, (), {("feb", "b"): ONE, ("feb", "a"): (10 ** 18 - 1, 1000)}))
        self.assertTrue(is_unlike(FLAT, SPLIT, (), {("feb", "a"): (0, 1)}))
        other = (("split", "shop", "a", (("n", HALF), ("s", HALF))),)
        self.assertFalse(is_unlike(FLAT, SPLIT, other, {("feb", "a"): (0, 1)}))
        self.assertTrue(is_unlike(FLAT, SPLIT, other, {("feb", "a"): ONE}))
        for value in ({("feb", "n"): ONE}, {("feb", "both"): ONE}, {("feb", "a"): (10 ** 18, 1)}, {("feb", "a"): None},
                      {("feb", "a"): (True, 1)},
                      [("feb", "a")], {"feb": ONE}):
            self.assertFalse(is_unlike(FLAT, SPLIT, (), value))

    def test_cells_that_cancel_are_alike(self):
        outline = one_side(("a", "b"))
        join = (("join", "s", ("a", "b"), "c"),)
        twice = (("split", "s", "a", (("a", (2, 1)), ("x", MINUS))), ("drop", "s", "x"),
                 ("split", "s", "b", (("b", HALF), ("y", HALF))), ("drop", "s", "y"),
                 ("join", "s", ("a", "b"), "c"))
        self.assertEqual(table_of(outline, twice), {("a",): ((("c",), (2, 1)),), ("b",): ((("c",), HALF),)})
        self.assertTrue(is_unlike(outline, join, twice, {("a",): ONE}))
        self.assertFalse(is_unlike(outline, join, twice, {("a",): ONE, ("b",): (2, 1)}))

    def test_errors_for_the_first_script_first(self):
        bad, worse = (("drop", "shop", "x"),), (("add", "shop", "a"),)
        for function, more in ((are_alike, ()), (unlike_cells, ()), (is_unlike, (None,))):
            self.assertEqual(self.assert_raises(Refused, function, FLAT, bad, worse, *more).reason, ("edit", 0, "unknown"))
            self.assertEqual(self.assert_raises(Refused, function, FLAT, (), worse, *more).reason, ("edit", 0, "taken"))

    def test_twenty_thousand_pairs_and_one_more(self):
        names = tuple(f"n{n}" for n in range(30))

        def script(side, joined, parts):
            """Makes pairs of each joined leaf and each part, and one pair of each other leaf."""
            shares = tuple((f"x{n}", (1, parts)) for n in range(parts))
            return (("join", side, names[:joined], "x"), ("split", side, "x", shares))

        def many(outline, told):
            return sum(len(row) for row in table_of(outline, told).values())
        outline = Outline((Side("a", names[:25]), Side("b", names[:17])))
        told = script("a", 15, 10) + script("b", 12, 10)
        self.assertEqual(many(outline, told), 160 * 125)
        # 177 * 113 are 20,001 pairs
        sides = (Side("a", names[:24]), Side("b", names[:23]))
        parts = (script("a", 17, 10), script("b", 10, 10))
        self.assertEqual([many(Outline((side,)), part) for side, part in zip(sides, parts)], [177, 113])
        self.assertEqual(self.assert_raises(TooMany, table_of, Outline(sides), parts[0] + parts[1]).limit, 20000)
        fewer = parts[0] + parts[1] + (("drop", "a", "n23"),)
        self.assertEqual(many(Outline(sides), fewer), 176 * 113)
        # Pairs count when the script is done: on the way there were more.
        self.assertEqual(self.assert_raises(TooMany, are_alike, Outline(sides), (), parts[0] + parts[1]).limit, 20000)
        # A refused edit comes first.
        self.assert_raises(Refused, table_of, Outline(sides), parts[0] + parts[1] + (("drop", "a", "n0"),))
        self.assert_raises(TooMany, are_alike, Outline(sides), parts[0] + parts[1], (("drop", "a", "zz"),))


class Drawn(unittest.TestCase, Checks):
    def test_outlines_behind_scripts(self):
        words = {}
        for seed in range(1500):
            chance = Chance(f"outlines {seed}")
            outline = chance.outline()
            script = editing.a_script(chance, outline, 8)
            expected = editing.behind(outline, script)
            error = raised(edited, outline, script)
            if isinstance(expected, tuple):
                self.assertEqual((type(error), error.reason), (Refused, expected), (seed, script))
                words[expected[2]] = words.get(expected[2], 0) + 1
            else:
                self.assertIsNone(error, (seed, script))
                self.assertEqual(edited(outline, script), expected, (seed, script))
        self.assertEqual(sorted(words), ["apart", "empty", "ring", "taken", "unknown"])

    def test_cubes_behind_scripts(self):
        kinds = {}
        for seed in range(1200):
            chance = Chance(f"cubes behind {seed}")
            cube = chance.cube()
            script = editing.a_script(chance, cube.outline, 5)
            expected = editing.cube_behind(cube, script)
            error = raised(carried, cube, script)
            if isinstance(expected, Cube):
                self.assertIsNone(error, (seed, script, error))
                self.assertEqual(carried(cube, script), expected)
                kinds["cube"] = kinds.get("cube", 0) + 1
            else:
                self.assertEqual((type(error), error.reason), (Refused, expected), (seed, script))
                kinds[expected[0]] = kinds.get(expected[0], 0) + 1
        self.assertEqual(sorted(kinds), ["cube", "edit", "rule"])
        self.assertGreater(kinds["cube"], 300)

    def test_scripts_one_behind_the_other(self):
        for seed in range(300):
            chance = Chance(f"two scripts {seed}")
            cube = chance.cube()
            script = editing.a_script(chance, cube.outline, 8)
            if not isinstance(editing.cube_behind(cube, script), Cube):
                continue
            for cut in range(len(script) + 1):
                one, other = script[:cut], script[cut:]
                self.assertEqual(edited(edited(cube.outline, one), other), edited(cube.outline, script))
                self.assertEqual(carried(carried(cube, one), other), carried(cube, script))

    def table_by_cells(self, outline, script):
        found = {}
        for place in sorted(outline.leaf_places()):
            model = editing.Edited(outline, (), {place: ONE})
            for edit in script:
                model.do(edit)
            found[place] = tuple(sorted((goal, (worth.numerator, worth.denominator)) for goal, worth in model.cells.items()))
        return found

    def test_tables_of_drawn_scripts(self):
        zeros = 0
        for seed in range(400):
            chance = Chance(f"tables {seed}")
            outline = chance.outline()
            script = editing.a_script(chance, outline, 8)
            if isinstance(editing.behind(outline, script), tuple):
                continue
            table = table_of(outline, script)
            self.assertEqual(table, self.table_by_cells(outline, script), (seed, script))
            zeros += sum(share == (0, 1) for row in table.values() for _, share in row)
            cells = chance.cells(outline)
            told = raised(carried, Cube(outline, (), cells), script)
            if told is None:
                sums = {}
                for place, worth in cells.items():
                    for goal, share in table[place]:
                        sums[goal] = sums.get(goal, 0) + fraction(worth) * fraction(share)
                behind = carried(Cube(outline, (), cells), script).cells
                self.assertEqual({place: fraction(worth) for place, worth in behind.items()}, sums)
        self.assertGreater(zeros, 0)

    def test_drawn_scripts_alike_and_unlike(self):
        kinds = {True: 0, False: 0}
        for seed in range(500):
            chance = Chance(f"alike {seed}")
            outline = chance.outline()
            one, other = (editing.a_script(chance, outline, 3) for _ in range(2))
            if chance.random.random() < 0.3:
                other = one + (("rename", outline.names[0], outline.sides[0].members[0], outline.sides[0].members[0]),)
            if isinstance(editing.behind(outline, one), tuple) or isinstance(editing.behind(outline, other), tuple):
                continue
            alike = self.table_by_cells(outline, one) == self.table_by_cells(outline, other)
            kinds[alike] += 1
            self.assertEqual(are_alike(outline, one, other), alike)
            told = unlike_cells(outline, one, other)
            if alike:
                self.assertIsNone(told)
            else:
                self.assertEqual((len(told), list(told.values())), (1, [ONE]))
                self.assertTrue(is_unlike(outline, one, other, told))
            for place in list(outline.leaf_places())[:6]:
                first, second = (editing.Edited(outline, (), {place: (3, 2)}) for _ in range(2))
                for edit in one:
                    first.do(edit)
                for edit in other:
                    second.do(edit)
                self.assertEqual(is_unlike(outline, one, other, {place: (3, 2)}), first.cells != second.cells)
        self.assertGreater(min(kinds.values()), 40)


if __name__ == "__main__":
    unittest.main()
