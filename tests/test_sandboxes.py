import unittest

from sumstead.errors import InvalidCells, InvalidName, InvalidOperation, InvalidPlace, InvalidRule, Refused, TooMany
from sumstead.hands.line import Line
from sumstead.hands.sandboxes import Sandbox, are_free, parting_write
from sumstead.outline.outlines import Outline, Side
from sumstead.plain.cubes import Cube
from sumstead.plain.rules import Rule

from chance import Chance
from examples import FLAT, GROWTH, HERE, LOOP, ONE, RULED, SOME, Checks, number, odd_values, raised, to
from plainly import Plain
from test_line import wide

JAN_A, JAN_B, MAR_A, FEB_A = ("jan", "a"), ("jan", "b"), ("mar", "a"), ("feb", "a")
TOP = ("all", "both")
RULE = Rule((("mar",), ("a",)), number(9))


def cells(**worths):
    return tuple([("cells", {tuple(name.split("_")): worth for name, worth in worths.items()})])


class Sandboxes(unittest.TestCase, Checks):
    def test_the_example(self):
        line = Line(SOME)
        ann, bob = Sandbox(line, "ann"), Sandbox(line, "bob")
        self.assertEqual([ann.answer(("jan", "both")), ann.has_read, ann.write({("mar", "a"): (9, 2)}),
                          bob.write({("jan", "b"): (1, 1), ("mar", "a"): None}),
                          parting_write(ann, bob)], [("worth", (9, 2)), (("jan", "a"), ("jan", "b")), None, None, ("mar", "a")])

    def test_a_new_sandbox(self):
        line = Line(RULED)
        line.commit("ann", cells(mar_a=ONE))
        box = Sandbox(line, "eve")
        self.assertEqual((box.author, box.base, box.cube, box.writes, box.rules, box.has_read, box.has_asked, len(box)),
                         ("eve", 1, line.cube, {}, None, (), False, 0))
        self.assertEqual(str(box), "sandbox of eve on 1, 0 writes")
        self.assertRaises(TypeError, iter, box)

    def test_wrong_arguments(self):
        line = Line(SOME)
        for value in odd_values():
            self.assert_raises(InvalidOperation, Sandbox, value, None)
            self.assert_raises(InvalidName, Sandbox, line, value)
            self.assert_raises(InvalidOperation, parting_write, value, None)
            self.assert_raises(InvalidOperation, are_free, Sandbox(line, "ann"), value)
            self.assertFalse(Sandbox(line, "ann") == value)
            self.assertTrue(Sandbox(line, "ann") != value)
            box = Sandbox(line, "ann")
            if value != {}:
                self.assert_raises(InvalidCells, box.write, value)
            if value != ():
                self.assert_raises(InvalidRule, box.put_rules, value)
            self.assert_raises(InvalidPlace, box.answer, value)
            self.assertEqual((box.writes, box.rules, box.has_asked, box.has_read), ({}, None, False, ()))
        first = raised(parting_write, None, 3)
        self.assertEqual(first.args, (None,))

    def test_writes_and_rules(self):
        line = Line(SOME)
        box = Sandbox(line, "ann")
        changes = {MAR_A: (9, 2), JAN_A: None}
        self.assertIsNone(box.write(changes))
        changes[FEB_A] = None
        self.assertIsNone(box.write({JAN_A: (4, 1), ("mar", "b"): None}))
        self.assertEqual(box.writes, {JAN_A: (4, 1), MAR_A: (9, 2), ("mar", "b"): None})
        self.assertEqual(list(box.writes), sorted(box.writes))
        box.writes.clear()
        self.assertEqual((len(box), str(box)), (3, "sandbox of ann on 0, 3 writes"))
        self.assertEqual(box.cube, SOME.with_cells({MAR_A: (9, 2)}))
        self.assertIsNone(box.put_rules((GROWTH,)))
        self.assertEqual((box.rules, box.cube), ((GROWTH,), RULED.with_cells({MAR_A: (9, 2)})))
        box.put_rules(())
        self.assertEqual((box.rules, box.cube.rules, line.cube), ((), (), SOME))

    def test_three_hundred_cells_and_one_more(self):
        cube, places = wide(299)
        box = Sandbox(Line(cube), "ann")
        box.write({places[299]: ONE})
        self.assertEqual(self.assert_raises(TooMany, box.write, {places[300]: ONE}).limit, 300)
        self.assertEqual((len(box), len(box.cube)), (1, 300))
        box.write({places[0]: None, places[300]: ONE})
        self.assertEqual(len(box.cube), 300)

    def test_what_an_answer_touches(self):
        box = Sandbox(Line(RULED), "ann")
        self.assertEqual(box.answer(("feb", "diff")), ("worth", (3, 2)))
        self.assertEqual((box.has_read, box.has_asked), ((FEB_A, JAN_A), True))
        # jan has nothing ahead of it: nothing else is asked
        box = Sandbox(Line(RULED), "ann")
        self.assertEqual((box.answer(("jan", "diff")), box.has_read), (("nothing",), (JAN_A,)))
        # cells that are not there are read, too
        box = Sandbox(Line(SOME), "ann")
        self.assertEqual((box.answer(("mar", "both")), box.has_read), (("nothing",), (MAR_A, ("mar", "b"))))
        # leaf places that a rule tells are touched, but not read
        box = Sandbox(Line(SOME.with_rules((RULE,))), "ann")
        self.assertEqual((box.answer(("mar", "both")), box.has_read, box.has_asked), (("worth", (9, 1)), (("mar", "b"),), True))
        # a ring, and a refusal behind which nothing is asked
        box = Sandbox(Line(LOOP), "ann")
        self.assertEqual((box.answer(TOP)[1][0], box.has_read), ("ring", (JAN_A,)))
        box = Sandbox(Line(SOME.with_rules((Rule((None, ("b",)), ("over", number(1), number(0))),))), "ann")
        self.assertEqual((box.answer(TOP), box.has_read), (("refused", ("zero", JAN_B)), (JAN_A,)))

    def test_choices_and_folds(self):
        chosen = Rule((("jan",), ("diff",)), ("if", ("there", to(("time", "jan"), ("shop", "a"))),
                                              to(("shop", "a"), ("time", "feb")), to(("shop", "b"))))
        box = Sandbox(Line(SOME.with_rules((chosen,))), "ann")
        self.assertEqual((box.answer(("jan", "diff")), box.has_read), (("worth", (6, 1)), (FEB_A, JAN_A)))
        box.write({JAN_A: None})
        self.assertEqual((box.answer(("jan", "diff")), box.has_read), (("worth", (1, 2)), (FEB_A, JAN_A, JAN_B)))
        first = Rule((("all",), None), ("first", "time", ("leaves",), HERE))
        box = Sandbox(Line(SOME.with_rules((first,))), "ann")
        self.assertEqual((box.answer(("all", "b")), box.has_read), (("worth", (1, 2)), (JAN_B,)))
        last = Rule((("all",), None), ("last", "time", ("leaves",), HERE))
        box = Sandbox(Line(SOME.with_rules((last,))), "ann")
        self.assertEqual((box.answer(("all", "b")), box.has_read), (("worth", (1, 2)), (("feb", "b"), JAN_B, ("mar", "b"))))

    def test_writes_ahead_of_an_answer_and_behind_it(self):
        box = Sandbox(Line(SOME), "ann")
        box.write({JAN_A: (1, 1), MAR_A: None})
        box.answer(("all", "a"))
        self.assertEqual(box.has_read, (FEB_A,))
        box.write({FEB_A: (2, 1)})
        self.assertEqual((box.has_read, box.answer(("all", "a"))), ((FEB_A,), ("worth", (3, 1))))
        self.assertEqual(box.has_read, (FEB_A,))

    def test_commits(self):
        line = Line(SOME)
        box = Sandbox(line, "ann")
        box.answer(TOP)
        box.write({MAR_A: None, JAN_A: (1, 1)})
        self.assertEqual(box.commit(), 1)
        self.assertEqual(line.commits, ((1, "ann", (("cells", {JAN_A: (1, 1), MAR_A: None}),)),))
        self.assertEqual((box.base, box.writes, box.rules, box.has_read, box.has_asked, box.cube), (1, {}, None, (), False, line.cube))
        box.put_rules((GROWTH,))
        self.assertEqual((box.commit(), line.commits[1][2]), (2, (("rules", (GROWTH,)),)))
        box.put_rules(())
        box.write({MAR_A: (2, 1)})
        self.assertEqual((box.commit(), line.commits[2][2]), (3, (("cells", {MAR_A: (2, 1)}), ("rules", ()))))
        self.assertEqual(self.assert_raises(Refused, box.commit).reason, ("empty",))
        box.write({})
        self.assertEqual(self.assert_raises(Refused, box.commit).reason, ("empty",))

    def test_rules_of_its_own_that_are_none_at_all(self):
        line = Line(RULED)
        box = Sandbox(line, "ann")
        box.put_rules(())
        self.assertEqual((box.rules, box.cube.rules), ((), ()))
        self.assertEqual((box.commit(), line.cube.rules), (1, ()))

    def test_what_bars_a_commit(self):
        def box_on(line):
            box = Sandbox(line, "ann")
            box.write({("mar", "b"): ONE})
            return box
        line = Line(SOME)
        box = box_on(line)
        box.answer(("jan", "both"))
        # cells that it has not read, rules if it has not asked, and what it has written bar nothing
        line.commit("bob", cells(feb_a=ONE, mar_b=(7, 1)))
        self.assertEqual((box.commit(), line.cube.cells[("mar", "b")]), (2, ONE))
        box = box_on(line)
        line.commit("bob", (("rules", (GROWTH,)),))
        self.assertEqual(box.commit(), 4)
        # a cell that was read, put again as it was, bars nothing
        box = box_on(line)
        box.answer(("jan", "both"))
        line.commit("bob", cells(jan_a=(4, 1)))
        line.commit("bob", (("rules", (GROWTH,)), ("edits", (("rename", "shop", "a", "a"),))))
        self.assertEqual(box.commit(), 7)
        for deeds, reason in ((cells(jan_b=(7, 1), jan_a=(7, 1), feb_a=(8, 1)), ("cell", 8, JAN_A)), ((("rules", ()),), ("rules", 8)),
                              ((("edits", (("add", "shop", "c"),)),), ("outline", 8)),
                              (cells(jan_a=None) + (("rules", ()),), ("rules", 8)),
                              (cells(jan_a=None) + (("rules", ()), ("edits", (("add", "shop", "c"),))), ("outline", 8))):
            box = box_on(line)
            box.answer(("jan", "both"))
            line.commit("bob", deeds)
            before = (box.writes, box.has_read, box.has_asked, box.base, line.commits)
            self.assertEqual(self.assert_raises(Refused, box.commit).reason, reason)
            self.assertEqual((box.writes, box.has_read, box.has_asked, box.base, line.commits), before)
            line.back()

    def test_a_change_of_the_outline_bars_without_a_question(self):
        line = Line(SOME)
        box = Sandbox(line, "ann")
        box.write({MAR_A: ONE})
        line.commit("bob", (("edits", (("add", "shop", "c"),)),))
        line.commit("bob", (("edits", (("drop", "shop", "c"),)),))
        self.assertEqual(line.cube, SOME)
        self.assertEqual(self.assert_raises(Refused, box.commit).reason, ("outline", 1))

    def test_the_first_commit_that_bars(self):
        line = Line(SOME)
        box = Sandbox(line, "ann")
        box.write({MAR_A: ONE})
        box.answer(("jan", "a"))
        line.commit("bob", cells(feb_a=ONE))
        line.commit("bob", cells(jan_a=ONE))
        line.commit("bob", (("rules", (GROWTH,)),))
        line.commit("bob", (("edits", (("add", "shop", "c"),)),))
        self.assertEqual(self.assert_raises(Refused, box.commit).reason, ("cell", 2, JAN_A))
        # Rings of changes bar, too: the cell is as it was, but it was changed.
        line = Line(SOME)
        box = Sandbox(line, "ann")
        box.write({MAR_A: ONE})
        box.answer(JAN_A)
        line.commit("bob", cells(jan_a=ONE))
        line.commit("bob", cells(jan_a=(4, 1)))
        self.assertEqual(self.assert_raises(Refused, box.commit).reason, ("cell", 1, JAN_A))

    def test_empty_comes_first_and_adrift_second(self):
        line = Line(SOME)
        line.commit("bob", cells(feb_a=ONE))
        box = Sandbox(line, "ann")
        box.answer(JAN_A)
        line.back()
        self.assertEqual(self.assert_raises(Refused, box.commit).reason, ("empty",))
        box.write({MAR_A: ONE})
        self.assertEqual(self.assert_raises(Refused, box.commit).reason, ("adrift", 1))
        # other commits behind the way back
        line.commit("eve", cells(jan_a=ONE))
        line.commit("eve", cells(jan_b=ONE))
        self.assertEqual(self.assert_raises(Refused, box.commit).reason, ("adrift", 1))
        # The same commit once more is no other one.
        line.back(2)
        line.commit("bob", cells(feb_a=ONE))
        self.assertEqual(box.commit(), 2)

    def test_adrift_by_an_equal_cube_of_another_author(self):
        line = Line(SOME)
        line.commit("bob", cells(feb_a=ONE))
        box = Sandbox(line, "ann")
        box.write({MAR_A: ONE})
        line.back()
        line.commit("eve", cells(feb_a=ONE))
        self.assertEqual(self.assert_raises(Refused, box.commit).reason, ("adrift", 1))
        line.back()
        line.commit("bob", cells(feb_a=ONE))
        line.back()
        line.forward()
        self.assertEqual(box.commit(), 2)

    def test_what_the_line_raises(self):
        line = Line(SOME)
        box = Sandbox(line, "ann")
        box.write({MAR_A: ONE})
        for _ in range(100):
            line.commit("bob", cells(feb_a=(6, 1)))
        self.assertEqual(self.assert_raises(TooMany, box.commit).limit, 100)
        self.assertEqual((len(box), box.base), (1, 0))
        line.back(3)
        self.assertEqual((box.commit(), line.ahead), (98, ()))
        cube, places = wide(299)
        line = Line(cube)
        box = Sandbox(line, "ann")
        box.write({places[299]: ONE})
        line.commit("bob", (("cells", {places[300]: ONE}),))
        self.assertEqual(self.assert_raises(TooMany, box.commit).limit, 300)
        self.assertEqual(self.assert_raises(TooMany, box.renew).limit, 300)
        self.assertEqual((box.base, box.writes, box.cube.cells.get(places[300])), (0, {places[299]: ONE}, None))

    def test_renewals(self):
        line = Line(SOME)
        box = Sandbox(line, "ann")
        box.write({MAR_A: ONE})
        box.answer(JAN_A)
        line.commit("bob", cells(jan_a=(5, 1)))
        line.commit("bob", (("rules", (GROWTH,)),))
        self.assertEqual(box.cube, SOME.with_cells({MAR_A: ONE}))
        self.assertEqual(box.renew(), 2)
        self.assertEqual((box.base, box.writes, box.has_read, box.has_asked), (2, {MAR_A: ONE}, (), False))
        self.assertEqual(box.cube, RULED.with_cells({MAR_A: ONE, JAN_A: (5, 1)}))
        self.assertEqual((box.answer(JAN_A), box.commit()), (("worth", (5, 1)), 3))
        # rules of its own stay
        box.put_rules((RULE,))
        line.commit("bob", (("rules", ()),))
        self.assertEqual((box.renew(), box.rules, box.cube.rules), (4, (RULE,), (RULE,)))
        # and when it is adrift
        line.back(3)
        self.assertEqual((box.renew(), box.cube), (1, line.cube.with_rules((RULE,))))
        self.assertEqual((box.commit(), line.present), (2, 2))

    def test_renewals_over_another_outline(self):
        line = Line(SOME)
        box = Sandbox(line, "ann")
        box.write({MAR_A: ONE})
        box.answer(JAN_A)
        line.commit("bob", (("edits", (("add", "shop", "c"),)),))
        self.assertEqual(self.assert_raises(Refused, box.renew).reason, ("outline", 0))
        self.assertEqual((box.base, box.has_read, box.has_asked, len(box)), (0, (JAN_A,), True, 1))
        line.commit("bob", (("edits", (("drop", "shop", "c"),)),))
        self.assertEqual((box.renew(), box.commit()), (2, 3))
        line.commit("bob", (("edits", (("add", "shop", "c"),)),))
        self.assertEqual(self.assert_raises(Refused, box.renew).reason, ("outline", 3))

    def test_equality(self):
        def made(*calls, line=None, author="ann"):
            box = Sandbox(Line(SOME) if line is None else line, author)
            for name, given in calls:
                getattr(box, name)(given)
            return box
        one = made(("write", {MAR_A: ONE}), ("answer", JAN_A))
        self.assertEqual(one, made(("answer", JAN_A), ("write", {MAR_A: ONE})))
        longer = Line(SOME)
        longer.commit("bob", cells(feb_a=ONE))
        for other in (made(("write", {MAR_A: ONE})), made(("write", {MAR_A: None}), ("answer", JAN_A)),
                      made(("write", {MAR_A: ONE}), ("answer", JAN_B)),
                      made(("write", {MAR_A: ONE}), ("answer", JAN_A), ("put_rules", ())),
                      made(("write", {MAR_A: ONE}), ("answer", JAN_A), author="bob"),
                      made(("write", {MAR_A: ONE}), ("answer", JAN_A), line=longer),
                      made(("write", {MAR_A: ONE}), ("answer", JAN_A), line=Line(RULED))):
            self.assertNotEqual(one, other)
        # a question that reads nothing is asked all the same
        ruled = Line(SOME.with_rules((RULE,)))
        self.assertNotEqual(made(line=ruled), made(("answer", MAR_A), line=ruled))

    def test_parting_writes_and_free_sandboxes(self):
        line = Line(SOME)

        def made(changes, rules=None):
            box = Sandbox(line, "ann")
            box.write(changes)
            if rules is not None:
                box.put_rules(rules)
            return box
        for one, other, parting in (({}, {}, None), ({MAR_A: ONE}, {}, None), ({MAR_A: None}, {}, None), ({MAR_A: ONE}, {MAR_A: ONE}, None),
                                    ({MAR_A: None}, {MAR_A: (0, 1)}, MAR_A), ({MAR_A: ONE, JAN_A: ONE}, {MAR_A: None, JAN_A: None}, JAN_A),
                                    ({MAR_A: ONE, JAN_A: ONE}, {MAR_A: None, FEB_A: None, JAN_B: ONE}, MAR_A)):
            self.assertEqual((parting_write(made(one), made(other)), parting_write(made(other), made(one))), (parting, parting))
            self.assertEqual(are_free(made(one), made(other)), parting is None)
        for one, other, free in ((None, (RULE,), True), ((), (RULE,), False), ((RULE,), (RULE,), True), ((), (), True), (None, None, True)):
            self.assertEqual((are_free(made({}, one), made({}, other)), are_free(made({}, other), made({}, one))), (free, free))
        self.assertFalse(are_free(made({MAR_A: ONE}, (RULE,)), made({MAR_A: None}, (RULE,))))

    def test_not_true_a_cube_that_was_read_stays_as_it_was(self):
        """The sandbox keeps its cube, whatever becomes of the line."""
        line = Line(SOME)
        line.commit("bob", cells(jan_a=(9, 1)))
        box = Sandbox(line, "ann")
        line.back()
        line.commit("bob", cells(jan_a=(8, 1)))
        self.assertEqual((box.base, box.cube.cells[JAN_A], box.answer(JAN_A)), (1, (9, 1), ("worth", (9, 1))))


def reads_of(cube, place):
    """The leaf places without rules that an answer touches, by a second reading."""
    plain = Plain(cube)
    touched, left, found = {place}, [place], []
    while left:
        one = left.pop()
        if plain.rule_at(one) is None and all(member in side.leaves for side, member in zip(plain.sides, one)):
            found.append(one)
        for needed in plain.needs(one):
            if needed not in touched:
                touched.add(needed)
                left.append(needed)
    return found


class Model:
    """What a sandbox should be, written plainly."""

    def __init__(self, line, author):
        self.line, self.author = line, author
        self.writes, self.rules = {}, None
        self.stand()

    def stand(self):
        self.base, self.ground, self.history = self.line.present, self.line.cube, self.line.commits
        self.reads, self.told = set(), []

    def over(self, cube, writes, rules):
        cube = cube.with_cells(writes)
        return cube if rules is None else cube.with_rules(rules)

    def cube(self):
        return self.over(self.ground, self.writes, self.rules)

    def answer(self, place):
        cube = self.cube()
        self.reads.update(one for one in reads_of(cube, place) if one not in self.writes)
        self.told.append((place, Plain(cube).answer(place), dict(self.writes), self.rules))
        return self.told[-1][1]

    def refusal(self):
        if not self.writes and self.rules is None:
            return ("empty",)
        if self.line.present < self.base or self.line.commits[:self.base] != self.history:
            return ("adrift", self.base)
        for number in range(self.base + 1, self.line.present + 1):
            one, other = self.line.at(number - 1), self.line.at(number)
            if one.outline != other.outline:
                return ("outline", number)
            if one.rules != other.rules and self.told:
                return ("rules", number)
            for place in sorted(self.reads):
                if one.cells.get(place) != other.cells.get(place):
                    return ("cell", number, place)
        return None


class Drawn(unittest.TestCase, Checks):
    def look(self, box, model):
        self.assertEqual((box.base, box.cube, box.writes, box.rules, box.has_read, box.has_asked, len(box)),
                         (model.base, model.cube(), model.writes, model.rules, tuple(sorted(model.reads)), bool(model.told),
                          len(model.writes)))

    def commit(self, line, box, model, seen):
        refusal = model.refusal()
        if refusal is not None:
            self.assertEqual(self.assert_raises(Refused, box.commit).reason, refusal)
            seen[refusal[0]] = seen.get(refusal[0], 0) + 1
            return
        ahead = line.cube
        for place, answer, writes, rules in model.told:
            # each answer is that of the cube just ahead of the commit, with the writes of then
            self.assertEqual(model.over(ahead, writes, rules).answer(place), answer)
            seen["answers"] = seen.get("answers", 0) + 1
        expected = model.over(ahead, model.writes, model.rules)
        number = line.present + 1
        self.assertEqual((box.commit(), line.present, line.cube), (number, number, expected))
        model.writes, model.rules = {}, None
        model.stand()
        seen["commits"] = seen.get("commits", 0) + 1

    def act(self, chance, line, box, model, seen):
        outline = box.cube.outline
        places = list(outline.leaf_places())
        draw = chance.random.random()
        if draw < 0.35:
            place = chance.one_of(outline.places())
            self.assertEqual(box.answer(place), model.answer(place))
        elif draw < 0.6:
            changes = {place: chance.one_of((None, chance.worth())) for place in chance.random.sample(places, min(2, len(places)))}
            box.write(changes)
            model.writes.update(changes)
        elif draw < 0.66:
            model.rules = chance.rules(outline, 2)
            box.put_rules(model.rules)
        elif draw < 0.86:
            self.commit(line, box, model, seen)
        elif draw < 0.94:
            if line.cube.outline == outline:
                self.assertEqual(box.renew(), line.present)
                model.stand()
            else:
                self.assertEqual(self.assert_raises(Refused, box.renew).reason, ("outline", box.base))
        elif draw < 0.98:
            if line.present and chance.random.random() < 0.5:
                line.back()
            elif line.ahead:
                line.forward()
        else:
            side = chance.one_of(line.cube.outline.sides)
            if raised(line.commit, "root", (("edits", (("add", side.name, f"k{chance.random.randint(0, 99)}"),)),)) is None:
                seen["edits"] = seen.get("edits", 0) + 1

    def test_several_sandboxes_of_one_line(self):
        seen = {}
        for seed in range(120):
            chance = Chance(f"sandboxes {seed}")
            line = Line(chance.cube())
            boxes = [Sandbox(line, name) for name in ("ann", "bob", "eve")]
            models = [Model(line, box.author) for box in boxes]
            for _ in range(50):
                at = chance.random.randrange(3)
                self.act(chance, line, boxes[at], models[at], seen)
                self.look(boxes[at], models[at])
        for word in ("empty", "adrift", "outline", "rules", "cell", "commits", "answers", "edits"):
            self.assertGreater(seen[word], 5, seen)

    def test_free_sandboxes_in_both_orders(self):
        kinds = {True: 0, False: 0}
        for seed in range(400):
            chance = Chance(f"free {seed}")
            line = Line(chance.cube())
            places = list(line.cube.outline.leaf_places())
            pair = []
            for author in ("ann", "bob"):
                box = Sandbox(line, author)
                box.write({place: chance.one_of((None, ONE)) for place in chance.random.sample(places,
                        chance.random.randint(0, min(3, len(places))))})
                if chance.random.random() < 0.4:
                    box.put_rules(chance.one_of(((), line.cube.rules)))
                pair.append(box)

            def done(cube, boxes):
                for box in boxes:
                    cube = cube.with_cells(box.writes)
                    cube = cube if box.rules is None else cube.with_rules(box.rules)
                return cube
            grounds = [line.cube, Cube(line.cube.outline), line.cube.with_cells(chance.cells(line.cube.outline))]
            alike = all(done(cube, pair) == done(cube, pair[::-1]) for cube in grounds)
            self.assertEqual(are_free(*pair), alike)
            self.assertEqual(are_free(*pair[::-1]), alike)
            kinds[alike] += 1
        self.assertGreater(min(kinds.values()), 50)

    def test_the_least_parting_write(self):
        for seed in range(200):
            chance = Chance(f"parting write {seed}")
            line = Line(chance.cube())
            places = list(line.cube.outline.leaf_places())
            one, other = Sandbox(line, "ann"), Sandbox(line, "bob")
            for box in (one, other):
                box.write({place: chance.one_of((None, ONE, (0, 1))) for place in places if chance.random.random() < 0.4})
            both = [place for place in sorted(places) if place in one.writes and place in other.writes and one.writes[place] != other.writes[place]]
            self.assertEqual(parting_write(one, other), both[0] if both else None)


if __name__ == "__main__":
    unittest.main()
