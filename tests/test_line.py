import unittest

from sumstead.errors import (InvalidCells, InvalidCube, InvalidName, InvalidNumber, InvalidOperation, NothingToUndo, Refused,
                             TooMany)
from sumstead.hands import line as module
from sumstead.hands.line import Line, cube_behind, is_deed
from sumstead.outline.outlines import Outline, Side
from sumstead.plain.cubes import Cube
from sumstead.plain.rules import Rule

import editing
from chance import Chance
from examples import FLAT, GROWTH, HERE, LOOP, ONE, RULED, SOME, Checks, odd_values, raised

JAN_A, MAR_A = ("jan", "a"), ("mar", "a")
PUT = ("cells", {MAR_A: (1, 1), ("jan", "b"): None})
RULES = ("rules", (GROWTH,))
RENAME = ("edits", (("rename", "shop", "a", "z"),))


def wide(many):
    """A cube of two sides with so many cells."""
    names = tuple(f"n{n}" for n in range(20))
    outline = Outline((Side("p", names), Side("q", names)))
    places = list(outline.leaf_places())
    return Cube(outline, (), {place: ONE for place in places[:many]}), places


class Deeds(unittest.TestCase, Checks):
    def test_forms(self):
        for deed in (PUT, ("cells", {}), ("cells", {JAN_A: (10 ** 18 - 1, 1000)}), RULES, ("rules", ()), ("rules", (GROWTH,) * 30), RENAME,
                     ("edits", ()), ("edits", (("drop", "nowhere", "x"),))):
            self.assertTrue(is_deed(SOME, deed), deed)
        rule = Rule((None, ("z",)), HERE)
        for deed in odd_values() + [
                ("cells", {MAR_A: (10 ** 18, 1)}), ("cells", {("mar", "both"): ONE}), ("cells", {MAR_A: (True, 1)}),
                                    ("cells", [MAR_A]), ["cells", {}],
                ("cells",), ("cells", {}, {}), ("rules", (rule,)), ("rules", [GROWTH]), ("rules", (GROWTH,) * 31), ("rules", None),
                                    ("edits", None),
                ("edits", [("drop", "shop", "a")]), ("edits", (("add", "s", "n"),) * 31), ("Cells", {}), (True, {}), ("cell", {}),
                                    ({}, {}), ([], ())]:
            self.assertFalse(is_deed(SOME, deed), deed)
            self.assert_raises(InvalidOperation, cube_behind, SOME, deed)
        self.assertFalse(is_deed(wide(0)[0], PUT))

    def test_a_thousand_changes_and_one_more(self):
        names = tuple(f"n{n}" for n in range(30))
        outline = Outline(tuple(Side(name, names[:11]) for name in "pqr"))
        places = list(outline.leaf_places())
        self.assertTrue(is_deed(Cube(outline), ("cells", {place: None for place in places[:1000]})))
        self.assertFalse(is_deed(Cube(outline), ("cells", {place: None for place in places[:1001]})))
        # by its form it is a deed, but it is refused
        deed = ("cells", {place: ONE for place in places[:301]})
        self.assertTrue(is_deed(Cube(outline), deed))
        self.assertEqual(self.assert_raises(TooMany, cube_behind, Cube(outline), deed).limit, 300)

    def test_the_cube_behind(self):
        self.assertEqual(cube_behind(SOME, PUT), SOME.with_cells(PUT[1]))
        self.assertEqual(cube_behind(SOME, RULES), RULED)
        self.assertEqual(cube_behind(SOME, RENAME).cells[("jan", "z")], (4, 1))
        self.assertEqual(self.assert_raises(Refused, cube_behind, SOME, ("edits", (("drop", "shop", "x"),))).reason, ("edit", 0, "unknown"))
        self.assert_raises(InvalidCells, cube_behind, SOME.with_cells({JAN_A: (1, 500)}),
                           ("edits", (("split", "shop", "a", (("n", (1, 3)), ("s", (2, 3)))),)))

    def test_wrong_cubes_come_first(self):
        for value in odd_values():
            if value is not SOME:
                self.assert_raises(InvalidCube, is_deed, value, None)
                self.assert_raises(InvalidCube, cube_behind, value, None)
                self.assert_raises(InvalidCube, Line, value)


class Lines(unittest.TestCase, Checks):
    def test_constants(self):
        self.assertEqual((module.MAX_COMMITS, module.MAX_DEEDS), (100, 5))

    def test_the_example(self):
        line = Line(SOME)
        self.assertEqual([line.commit("ann", (("cells", {("mar", "a"): (1, 1), ("jan", "b"): None}),)), line.cube.answer(("all", "both")),
                          line.changed(1), str(line)],
                         [1, ("worth", (11, 1)), ((("jan", "b"), ("mar", "a")), False, False), "line of 1 commits, 0 ahead"])

    def test_a_new_line(self):
        line = Line(SOME)
        self.assertEqual((line.present, line.cube, line.commits, line.ahead, len(line), line.at(0)), (0, SOME, (), (), 0, SOME))
        self.assertEqual(str(line), "line of 0 commits, 0 ahead")
        self.assertRaises(TypeError, iter, line)
        for value in odd_values():
            self.assertFalse(value in line)
            self.assertFalse(line == value)
            self.assertTrue(line != value)

    def test_commits_of_several_deeds(self):
        line = Line(SOME)
        deeds = (PUT, RENAME, ("cells", {("feb", "z"): (7, 2)}), ("rules", ()), ("edits", (("add", "shop", "c"),)))
        self.assertEqual(line.commit("me", deeds), 1)
        cube = SOME
        for deed in deeds:
            cube = cube_behind(cube, deed)
        self.assertEqual((line.cube, line.at(0), line.at(1)), (cube, SOME, cube))
        self.assertEqual(line.commits, ((1, "me", deeds),))
        places, rules, outline = line.changed(1)
        self.assertEqual((rules, outline), (False, True))
        self.assertEqual(places, (("feb", "a"), ("feb", "z"), ("jan", "a"), ("jan", "b"), ("jan", "z"), ("mar", "z")))
        self.assertEqual(line.compared(1, 0)[0][("feb", "z")], ((7, 2), None))
        self.assertEqual(line.compared(0, 0), ({}, False, False))

    def test_deeds_that_cannot_be_done(self):
        line = Line(SOME)
        line.commit("me", (PUT,))
        before = (line.commits, line.ahead, line.cube, line.present)
        for deeds, kind in (((RENAME, PUT), InvalidOperation), ((PUT, ("edits", (("drop", "shop", "c"),)), None), Refused),
                            ((PUT, None), InvalidOperation),
                            ((RULES, ("edits", (("drop", "shop", "a"),))), Refused), (("x",), InvalidOperation),
                            ((PUT, PUT, PUT, PUT, 3), InvalidOperation)):
            self.assert_raises(kind, line.commit, "me", deeds)
            self.assertEqual((line.commits, line.ahead, line.cube, line.present), before)
        # the first error, deed by deed
        bad = ("edits", (("drop", "shop", "c"),))
        self.assertEqual(self.assert_raises(Refused, line.commit, "me", (bad, None)).reason, ("edit", 0, "unknown"))
        self.assertEqual(self.assert_raises(Refused, line.commit, "me", (RULES, ("edits",
                (("rename", "shop", "b", "c"), ("drop", "shop", "diff"))))).reason,
                         ("edit", 1, "unknown"))
        self.assertEqual(self.assert_raises(Refused, line.commit, "me", (RULES, ("edits", (("drop", "shop", "a"),)))).reason,
                         ("rule", 0, 0))
        cube, places = wide(300)
        line = Line(cube)
        self.assertEqual(self.assert_raises(TooMany, line.commit, "me", (("cells", {places[300]: ONE}),
                ("cells", {places[0]: None}))).limit, 300)
        self.assertEqual(line.commit("me", (("cells", {places[0]: None}), ("cells", {places[300]: ONE}))), 1)
        # A deed is asked of the cube behind those ahead of it.
        self.assertEqual(Line(SOME).commit("me", (RENAME, ("cells", {("jan", "z"): None}))), 1)

    def test_the_order_of_errors(self):
        line = Line(SOME)
        for author in odd_values() + ["Ann", "a b"]:
            self.assert_raises(InvalidName, line.commit, author, None)
        for deeds in odd_values() + [[PUT], (), (PUT,) * 6, PUT[1]]:
            if not (type(deeds) is tuple and 1 <= len(deeds) <= 5):
                self.assert_raises(InvalidOperation, line.commit, "ann", deeds)
        for _ in range(100):
            line.commit("ann", (PUT,))
        self.assert_raises(InvalidName, line.commit, "Ann", ())
        self.assert_raises(InvalidOperation, line.commit, "ann", ())
        self.assertEqual(self.assert_raises(TooMany, line.commit, "ann", (None,)).limit, 100)

    def test_the_hundredth_commit_and_one_more(self):
        line = Line(SOME)
        for number in range(1, 101):
            self.assertEqual(line.commit("ann", (("cells", {JAN_A: (number, 1)}),)), number)
        self.assert_raises(TooMany, line.commit, "ann", (PUT,))
        self.assertEqual((line.present, len(line), line.at(57).cells[JAN_A]), (100, 100, (57, 1)))
        self.assertEqual(line.back(100), 0)
        self.assertEqual(len(line.ahead), 100)
        self.assertEqual(line.forward(99), 99)
        self.assertEqual(line.commit("bob", (PUT,)), 100)
        self.assert_raises(TooMany, line.commit, "ann", (PUT,))
        self.assertEqual((line.ahead, line.commits[98][2], line.commits[99]), ((), (("cells", {JAN_A: (99, 1)}),), (100, "bob", (PUT,))))

    def test_back_and_forward(self):
        line = Line(SOME)
        for number in range(1, 5):
            line.commit("ann", (("cells", {JAN_A: (number, 1)}),))
        self.assertEqual((line.back(), line.cube.cells[JAN_A], str(line)), (3, (3, 1), "line of 3 commits, 1 ahead"))
        self.assertEqual((line.back(2), line.present, [number for number, _, _ in line.ahead]), (1, 1, [2, 3, 4]))
        self.assertEqual((line.forward(), line.forward(2), line.ahead), (2, 4, ()))
        self.assertEqual(self.assert_raises(NothingToUndo, line.forward).many, 1)
        self.assertEqual(self.assert_raises(NothingToUndo, line.back, 5).many, 5)
        self.assertEqual(line.back(4), 0)
        self.assertEqual(self.assert_raises(NothingToUndo, line.back).many, 1)
        self.assertEqual(self.assert_raises(NothingToUndo, line.forward, 10 ** 60 - 1).many, 10 ** 60 - 1)
        for value in odd_values() + [0, -1, True, "1", (1,)]:
            if value != 1 or value is True:
                self.assert_raises(InvalidNumber, line.back, value)
                self.assert_raises(InvalidNumber, line.forward, value)
        self.assertEqual(line.forward(2), 2)
        # commits behind a way back drop those ahead
        self.assertEqual(line.commit("bob", (RULES,)), 3)
        self.assertEqual((line.ahead, len(line.commits), line.cube.rules), ((), 3, (GROWTH,)))
        self.assert_raises(InvalidNumber, line.at, 4)

    def test_numbers(self):
        line = Line(SOME)
        line.commit("ann", (PUT,))
        line.commit("ann", (RULES,))
        line.back()
        for value in odd_values() + [2, -1, True, False, 10 ** 99]:
            if not (type(value) is int and 0 <= value <= 1):
                self.assertIs(self.assert_raises(InvalidNumber, line.at, value).given, value)
                self.assert_raises(InvalidNumber, line.compared, value, None)
                self.assert_raises(InvalidNumber, line.compared, 0, value)
                self.assert_raises(InvalidNumber, line.changed, value)
        self.assertEqual(self.assert_raises(InvalidNumber, line.changed, 0).given, 0)
        self.assertEqual(self.assert_raises(InvalidNumber, line.compared, 7, 8).given, 7)
        line.forward()
        self.assertEqual(line.changed(2), ((), True, False))

    def test_changes_across_edits(self):
        line = Line(SOME.with_rules((Rule((None, ("a",)), HERE),)))
        line.commit("ann", (RENAME,))
        line.commit("ann", (("edits", (("rename", "shop", "z", "a"), ("drop", "shop", "b"))),))
        self.assertEqual(line.changed(1), ((("feb", "a"), ("feb", "z"), ("jan", "a"), ("jan", "z")), True, True))
        self.assertEqual(line.changed(2)[1:], (True, True))
        self.assertEqual(line.compared(0, 2), ({("jan", "b"): ((1, 2), None)}, False, True))
        self.assertEqual(line.compared(2, 0), ({("jan", "b"): (None, (1, 2))}, False, True))
        line.commit("ann", (("edits", (("rename", "shop", "a", "a"),)),))
        self.assertEqual(line.changed(3), ((), False, False))
        line.commit("ann", (("edits", (("group", "shop", "sums", ("a",), "g"),)),))
        self.assertEqual(line.changed(4), ((), False, True))

    def test_cells_of_0_are_not_nothing(self):
        line = Line(SOME)
        line.commit("ann", (("cells", {JAN_A: (0, 1), ("mar", "b"): (0, 1)}),))
        self.assertEqual(line.compared(0, 1)[0], {JAN_A: ((4, 1), (0, 1)), ("mar", "b"): (None, (0, 1))})

    def test_membership(self):
        line = Line(SOME)
        line.commit("ann", (PUT, RULES))
        line.commit("bob", (("cells", {JAN_A: ONE}),))
        line.back()
        self.assertTrue((1, "ann", (("cells", {("jan", "b"): None, MAR_A: (1, 1)}),
                                    ("rules", (Rule(GROWTH.area, GROWTH.formula, 2),)))) in line)
        for value in ((2, "bob", (("cells", {JAN_A: ONE}),)), (True, "ann", (PUT, RULES)), (1, "ann", [PUT, RULES]),
                      (1, "ann", (PUT,)), [1, "ann", (PUT, RULES)],
                      (1, "ann", (("cells", {MAR_A: (True, 1), ("jan", "b"): None}), RULES)), (1, "bob", (PUT, RULES)), (1, "ann", (("cells", {MAR_A: (1, 1)}), RULES)),
                      (1, "ann", (("cells", {MAR_A: (1, 1), ("jan", "b"): None, ("feb", "b"): None}), RULES)),
                      (1, "ann", (PUT, RULES), ())):
            self.assertFalse(value in line, value)
        line.forward()
        self.assertTrue((2, "bob", (("cells", {JAN_A: ONE}),)) in line)

    def test_equality(self):
        def made(first, authors, back=0):
            line = Line(first)
            for author in authors:
                line.commit(author, (PUT,))
            if back:
                line.back(back)
            return line
        self.assertEqual(made(SOME, ("ann", "bob"), 1), made(SOME, ("ann", "bob"), 1))
        for other in (made(SOME, ("ann", "bob")), made(SOME, ("ann",)), made(SOME, ("ann", "eve"), 1),
                      made(RULED, ("ann", "bob"), 1), made(SOME, ("ann", "bob"), 2)):
            self.assertNotEqual(made(SOME, ("ann", "bob"), 1), other)

    def test_nothing_is_shared(self):
        changes = {MAR_A: (1, 1)}
        line = Line(SOME)
        line.commit("ann", (("cells", changes),))
        changes[MAR_A] = None
        line.commits[0][2][0][1].clear()
        self.assertEqual(line.commits, ((1, "ann", (("cells", {MAR_A: (1, 1)}),)),))
        line.back()
        line.ahead[0][2][0][1].clear()
        line.forward()
        self.assertEqual(line.commits, ((1, "ann", (("cells", {MAR_A: (1, 1)}),)),))
        mixed = {("mar", "b"): ONE, ("feb", "b"): ONE}
        line.commit("ann", (("cells", mixed),))
        self.assertEqual(list(line.commits[1][2][0][1]), [("feb", "b"), ("mar", "b")])
        self.assertEqual(SOME.cells, {("feb", "a"): (6, 1), ("jan", "a"): (4, 1), ("jan", "b"): (1, 2)})


def a_deed(chance, cube):
    """A drawn deed, which can be done mostly."""
    places = list(cube.outline.leaf_places())
    draw = chance.random.random()
    if draw < 0.55:
        chosen = chance.random.sample(places, min(len(places), chance.random.randint(0, 3)))
        return ("cells", {place: chance.one_of((None, chance.worth())) for place in chosen})
    if draw < 0.75:
        return ("rules", chance.rules(cube.outline, 2))
    return ("edits", editing.a_script(chance, cube.outline, 2))


class Drawn(unittest.TestCase, Checks):
    """Long rows of drawn calls, held against a list of cubes."""

    def commit(self, chance, line, cubes, commits, present):
        cube = cubes[present]
        deeds, behind, error = (), cube, None
        for _ in range(chance.random.randint(1, 5)):
            deed = a_deed(chance, behind if error is None else cube)
            deeds += (deed,)
            if error is None:
                error = raised(cube_behind, behind, deed)
                behind = behind if error is not None else cube_behind(behind, deed)
        author = chance.one_of(("ann", "bob"))
        if error is not None:
            told = self.assert_raises(type(error), line.commit, author, deeds)
            self.assertEqual(told.args, error.args)
            return present
        self.assertEqual(line.commit(author, deeds), present + 1)
        del cubes[present + 1:], commits[present:]
        cubes.append(behind)
        commits.append((present + 1, author, deeds))
        return present + 1

    def look(self, line, cubes, commits, present):
        self.assertEqual((line.present, len(line), line.cube), (present, present, cubes[present]))
        self.assertEqual((line.commits, line.ahead), (tuple(commits[:present]), tuple(commits[present:])))
        for number in range(present + 1):
            self.assertEqual(line.at(number), cubes[number])

    def compare(self, line, cubes, one, other):
        first, second = cubes[one], cubes[other]
        pairs = {place: (first.cells.get(place), second.cells.get(place)) for place in sorted({**first.cells, **second.cells})
                 if first.cells.get(place) != second.cells.get(place)}
        self.assertEqual(line.compared(one, other), (pairs, first.rules != second.rules, first.outline != second.outline))
        self.assertEqual(list(line.compared(one, other)[0]), list(pairs))
        if other == one + 1:
            self.assertEqual(line.changed(other), (tuple(pairs),) + line.compared(one, other)[1:])
        if first.outline == second.outline:
            changes = {place: pair[1] for place, pair in pairs.items()}
            self.assertEqual(first.with_cells(changes).cells, second.cells)

    def test_drawn_lines(self):
        edits = 0
        for seed in range(60):
            chance = Chance(f"line {seed}")
            cubes, commits, present = [chance.cube()], [], 0
            line = Line(cubes[0])
            for _ in range(25):
                draw = chance.random.random()
                count = chance.random.randint(1, 3)
                if draw < 0.6:
                    present = self.commit(chance, line, cubes, commits, present)
                elif draw < 0.8:
                    if count <= present:
                        present -= count
                        self.assertEqual(line.back(count), present)
                    else:
                        self.assert_raises(NothingToUndo, line.back, count)
                elif count <= len(commits) - present:
                    present += count
                    self.assertEqual(line.forward(count), present)
                else:
                    self.assert_raises(NothingToUndo, line.forward, count)
                self.look(line, cubes, commits, present)
            for one in range(present + 1):
                for other in (one - 1, one + 1, 0, present):
                    if 0 <= other <= present:
                        self.compare(line, cubes, one, other)
            edits += sum(deed[0] == "edits" and len(deed[1]) > 0 for _, _, deeds in commits for deed in deeds)
        self.assertGreater(edits, 50)

    def test_back_and_forward_by_equal_counts(self):
        line = Line(LOOP)
        for number in range(6):
            line.commit("ann", (("cells", {JAN_A: (number, 1)}),))
        before = (line.commits, line.cube)
        for count in range(1, 7):
            line.back(count)
            line.forward(count)
            self.assertEqual((line.commits, line.cube, line.ahead), before + ((),))


if __name__ == "__main__":
    unittest.main()
