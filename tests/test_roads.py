"""The main promise: each road answers, at each place, what the plain reading tells."""

import unittest

from sumstead.change.edits import carried
from sumstead.code.machine import Machine
from sumstead.code.making import code_of
from sumstead.code.passes import PASSES, passed
from sumstead.disk.disk import Disk
from sumstead.disk.keeper import Keeper
from sumstead.errors import PowerLost, Refused
from sumstead.hands.line import Line
from sumstead.hands.sandboxes import Sandbox
from sumstead.kept.marks import answer_marked, is_enough, least_marks
from sumstead.kept.sums import Kept
from sumstead.load.loads import Ledger, Load
from sumstead.outline.outlines import Outline, Side
from sumstead.parts.parts import Parts
from sumstead.plain.cubes import Cube
from sumstead.plain.forms import form_of
from sumstead.plain.rules import Rule
from sumstead.plain.weights import answer_by_leaves, is_clean
from sumstead.right.views import View, cut_cube
from sumstead.store.blocks import BlockStore
from sumstead.text.saying import answer_text
from sumstead.text.shell import Shell

import editing
from chance import Chance
from examples import FLAT, HERE, ONE, SOME, Checks, number, raised, to
from plainly import Plain
from test_views import a_right


def power_rules(outline):
    """Rules at the leaves of the first side, each the square of the one ahead, so that later ones are great."""
    side = outline.sides[0]
    others = (None,) * (len(outline) - 1)
    ahead = ("at", ((side.name, ("step", -1)),))
    square = ("times", ("times", ahead, ahead), ("times", ahead, ahead))
    return (Rule(((side.leaves[0],),) + others, ("worth", (10 ** 55, 7)), 3),
            Rule((tuple(sorted(side.leaves[1:])) or (side.leaves[0],),) + others, square, 2))


def a_cube(chance, seed):
    """A drawn cube; every third one has great results, every fourth one a quotient by 0 at a leaf."""
    cube = chance.cube()
    rules = cube.rules
    if seed % 3 == 0:
        rules = power_rules(cube.outline) + rules
    if seed % 4 == 0:
        leaf = tuple((chance.one_of(side.leaves),) for side in cube.outline.sides)
        rules = rules + (Rule(leaf, ("over", HERE if seed % 8 else number(1), number(0)), 9),)
    return cube.with_rules(rules)


class Roads(unittest.TestCase, Checks):
    def setUp(self):
        self.kinds = {}

    def hold(self, expected, road, told):
        """Whatever a road tells is what the plain reading tells."""
        for place, answer in expected.items():
            self.assertEqual(told(place), answer, (road, place))
            kind = answer[0] if answer[0] != "refused" else answer[1][0]
            self.kinds[kind] = self.kinds.get(kind, 0) + 1

    def expected(self, cube):
        plain = Plain(cube)
        answers = {place: plain.answer(place) for place in cube.outline.places()}
        self.hold(answers, "plain reading", cube.answer)
        return answers

    def changes(self, chance, cube):
        places = list(cube.outline.leaf_places())
        return {place: chance.one_of((None, chance.worth())) for place in chance.random.sample(places, min(3, len(places)))}

    def machine(self, chance, cube):
        words = tuple(chance.one_of(PASSES) for _ in range(chance.random.randint(0, 4)))
        return Machine(cube, tuple(passed(code_of(rule.formula), words) for rule in cube.rules))

    def drawn(self, name, many):
        for seed in range(many):
            chance = Chance(f"{name} {seed}")
            yield chance, a_cube(chance, seed)

    def test_kept_sums_and_code(self):
        for chance, cube in self.drawn("kept road", 40):
            clean = [place for place in cube.outline.places() if is_clean(cube, place)]
            kept = Kept(cube, tuple(chance.random.sample(clean, min(len(clean), chance.random.randint(0, 6)))))
            machine = self.machine(chance, cube)
            for _ in range(3):
                answers = self.expected(kept.cube)
                self.hold(answers, "kept sums", kept.answer)
                self.hold(answers, "machine", machine.answer)
                changes = self.changes(chance, cube)
                kept.change(changes), machine.change(changes)
        for kind in ("worth", "nothing", "zero", "great", "ring"):
            self.assertGreater(self.kinds[kind], 20, self.kinds)

    def test_skipped_places_leaves_and_forms(self):
        marked = 0
        for chance, cube in self.drawn("marked road", 40):
            for place, answer in self.expected(cube).items():
                marks = least_marks(cube, place)
                if marks is not None and answer[:1] != ("refused",):
                    more = tuple(sorted({*marks, *(leaf for leaf in cube.outline.leaf_places() if chance.random.random() < 0.2)}))
                    self.assertTrue(is_enough(cube, place, more))
                    self.assertEqual(answer_marked(cube, place, more), answer)
                    marked += 1
                if is_clean(cube, place):
                    self.assertEqual(answer_by_leaves(cube, place), answer)
                form = raised(form_of, cube, place) or form_of(cube, place)
                if not isinstance(form, Exception):
                    told = form.at(cube.cells)
                    self.assertIn(answer, [("nothing",) if told is None else ("worth", told), ("refused", ("great", place))])
                else:
                    self.assertIs(type(form), Refused)
        self.assertGreater(marked, 300)

    def test_blocks_in_any_order(self):
        for chance, cube in self.drawn("block road", 40):
            names = cube.outline.names
            dense = tuple(name for name in names if chance.random.random() < 0.5)
            store = BlockStore(cube.outline, dense, cube.cells)
            for place, entry in self.changes(chance, cube).items():
                store.put(place, entry)
            changed = Cube(cube.outline, cube.rules, store.cells)
            self.hold(self.expected(changed), "cube of blocks", store.as_cube(cube.rules).answer)
            answers = self.expected(changed.with_rules(()))
            for _ in range(2):
                keys = list(store)
                chance.random.shuffle(keys)
                self.hold(answers, "blocks", lambda place: store.answer(place, keys=tuple(keys)))
                store.squeeze()

    def test_sandboxes_and_shells(self):
        for chance, cube in self.drawn("sandbox road", 40):
            line = Line(cube)
            box, shell = Sandbox(line, "ann"), Shell(line)
            for _ in range(3):
                changes = self.changes(chance, cube)
                box.write(changes)
                answers = self.expected(line.cube.with_cells(box.writes))
                self.hold(answers, "sandbox", box.answer)
                for place, entry in box.writes.items():
                    self.assertEqual(shell.say(f"put {' '.join(place)} = " + ("nothing" if entry is None else answer_text(("worth",
                            entry)))), "ok")
                for place, answer in answers.items():
                    self.assertEqual(shell.say("tell " + " ".join(place)), answer_text(answer))
                line.commit("bob", (("cells", self.changes(chance, cube)), ("rules", chance.rules(cube.outline, 3))))
                box.renew()
                self.assertEqual(shell.say("renew"), str(line.present))

    def test_views(self):
        for chance, cube in self.drawn("view road", 60):
            right = a_right(chance, cube.outline)
            view, whole = View(cube, right), self.expected(cube)
            answers = self.expected(cut_cube(cube, right))
            answers.update({place: whole[place] for place in right.granted})
            self.assertEqual(view.seen, tuple(sorted(answers)))
            self.hold(answers, "view", view.answer)

    def test_parts(self):
        for chance, cube in self.drawn("part road", 40):
            side = chance.one_of(cube.outline.sides)
            cuts = tuple(at for at in range(1, len(side.leaves)) if chance.random.random() < 0.6)
            parts, cubes = Parts(cube, side.name, cuts), [cube]
            for _ in range(3):
                changes = self.changes(chance, cube)
                parts.send(changes)
                cubes.append(cubes[-1].with_cells(changes))
            for index in range(len(parts)):
                parts.fetch(index, 3)
                parts.follow(index, chance.random.randint(1, 3))
            index = chance.random.randrange(len(parts))
            moment = parts.fall(index)
            self.assertEqual(parts.sure, moment)
            self.hold(self.expected(cubes[moment]), "parts", parts.answer)
            if moment < 3:
                parts.fetch(index, 3 - moment)
            self.hold(self.expected(cubes[3]), "parts again", parts.answer)

    def test_coming_up_again(self):
        for chance, cube in self.drawn("keeper road", 30):
            disk = Disk()
            keeper = Keeper(disk, cube)
            for _ in range(3):
                keeper.commit("ann", (("cells", self.changes(chance, cube)), ("rules", cube.rules[:chance.random.randint(0, 9)])))
                if chance.random.random() < 0.4:
                    keeper.squeeze()
                power = chance.random.randint(0, 6)
                disk = disk.lost((1, 5, 5), power=power)
                keeper = Keeper.up(disk)
                before = keeper.cube
                if chance.random.random() < 0.5:
                    try:
                        keeper.squeeze()
                    except PowerLost:
                        pass
                disk = disk.lost(tuple(chance.random.randint(0, 300) for _ in range(3)))
                keeper = Keeper.up(disk)
                self.assertEqual(keeper.cube, before)
                self.hold(self.expected(before), "keeper", keeper.cube.answer)

    def test_edits_and_ledgers(self):
        """Cubes behind edits and loads are cubes like others."""
        done = 0
        for chance, cube in self.drawn("edit road", 60):
            script = editing.a_script(chance, cube.outline, 4)
            if raised(carried, cube, script) is None:
                behind = carried(cube, script)
                self.hold(self.expected(behind), "behind edits", self.machine(chance, behind).answer)
                done += 1
            ledger = Ledger(cube)
            rows = tuple(place + ("1/2",) for place in self.changes(chance, cube))
            ledger.lay(Load(cube.outline, tuple(range(len(cube.outline))), len(cube.outline), rows), chance.one_of(("add", "set")))
            self.hold(self.expected(ledger.cube), "ledger", ledger.cube.answer)
        self.assertGreater(done, 20)

    def test_all_roads_over_one_cube(self):
        """One line, with commits and the way back; all roads at each number."""
        share = Rule((None, ("b",)), ("over", to(("shop", "a")), to(("shop", "diff"))), 1)
        line = Line(SOME.with_rules((share,)))
        line.commit("ann", (("cells", {("mar", "a"): (9, 1)}),))
        line.commit("bob", (("edits", (("split", "time", "mar", (("early", (1, 3)), ("late", (2, 3)))),)),))
        line.commit("ann", (("rules", (Rule((("early",), ("b",)), number(4), 7),)), ("cells", {("late", "a"): None})))
        for number_at in (3, 2, 1, 0):
            cube = line.at(number_at)
            answers = self.expected(cube)
            disk = Disk()
            Keeper(disk, cube)
            roads = {"kept": Kept(cube, ()).answer, "machine": Machine(cube).answer, "sandbox": Sandbox(Line(cube), "ann").answer,
                     "parts": Parts(cube, "time", (1, 2)).answer, "keeper": Keeper.up(disk.lost()).cube.answer,
                     "blocks": BlockStore(cube.outline, ("shop",), cube.cells).as_cube(cube.rules).answer}
            for road, told in roads.items():
                self.hold(answers, road, told)


class NotTrue(unittest.TestCase, Checks):
    """The sentences of [0.21], each by an example that shows it; two of them stand with hidden cells and totals."""

    def test_the_quotient_of_two_sums_is_the_sum_of_the_quotients(self):
        rate = Rule((None, ("diff",)), ("over", to(("shop", "a")), to(("shop", "b"))))
        cube = Cube(FLAT, (rate,), {("jan", "a"): (1, 1), ("jan", "b"): (2, 1), ("feb", "a"): (3, 1), ("feb", "b"): (4, 1)})
        quotients = Cube(FLAT, (Rule((("feb", "jan", "mar"), ("diff",)), rate.formula),), cube.cells)
        self.assertEqual((cube.answer(("all", "diff")), quotients.answer(("all", "diff"))), (("worth", (2, 3)), ("worth", (5, 4))))

    def test_a_rule_at_a_group_tells_the_same_in_every_order_of_opening(self):
        from sumstead.plain.weights import answer_by
        cube = SOME.with_rules((Rule((("all",), ("a",)), number(100)),))
        self.assertEqual((answer_by(cube, ("all", "both"), (0, 1)), answer_by(cube, ("all", "both"), (1, 0))),
                         (("worth", (21, 2)), ("worth", (201, 2))))

    def test_a_place_whose_worth_is_0_is_nothing(self):
        cube = Cube(FLAT, (), {("jan", "a"): ONE, ("jan", "b"): ONE})
        self.assertEqual((cube.answer(("jan", "diff")), cube.answer(("feb", "diff"))), (("worth", (0, 1)), ("nothing",)))

    def test_three_totals_that_are_each_possible_are_possible_together(self):
        from sumstead.write.totals import Totals
        one = Side("p", ("a", "b"), (("h", (("all", (("a", ONE), ("b", ONE))),)),))
        two = Side("q", ("x", "y"), (("k", (("sum", (("x", ONE), ("y", ONE))),)),))
        pairs = {("a", "sum"): (3, 9), ("b", "sum"): (3, 9), ("all", "sum"): (5, 5)}
        for line in pairs:
            self.assertIsNotNone(Totals(Outline((one, two)), ("h", "k"), {line: pairs[line]}).filling())
        together = Totals(Outline((one, two)), ("h", "k"), pairs)
        self.assertIsNone(together.filling())
        self.assertTrue(together.is_cut(together.cut()))


if __name__ == "__main__":
    unittest.main()
