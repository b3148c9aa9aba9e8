import unittest

from sumstead.disk import keeper as module
from sumstead.disk.disk import Disk
from sumstead.disk.keeper import Keeper
from sumstead.disk.log import log_text, read_log
from sumstead.errors import InvalidCube, InvalidName, InvalidOperation, InvalidStore, ParseError, PowerLost, Refused, TooMany
from sumstead.hands.line import Line
from sumstead.outline.outlines import Outline, Side
from sumstead.plain.cubes import Cube
from sumstead.plain.rules import Rule

from chance import Chance
from examples import ONE, RULED, SOME, Checks, nines, number, odd_values, raised
from test_line import a_deed, wide

JAN_A, MAR_A = ("jan", "a"), ("mar", "a")
PUT = ("cells", {MAR_A: (1, 1), ("jan", "b"): None})
RENAME = ("edits", (("rename", "shop", "a", "z"),))


def long_cube(rules):
    """A cube whose text has nearly 11,000 characters for each rule."""
    names = tuple(f"name{n:04}" for n in range(30))
    span = ("members", names)
    part = ("sum", "s", span, ("first", "s", span, ("worth", (nines(60), nines(60) - 1))))
    row = [part] * 15
    while len(row) > 1:
        row = [("plus", *row[at:at + 2]) if at + 1 < len(row) else row[at] for at in range(0, len(row), 2)]
    return Cube(Outline((Side("s", names),)), (Rule((None,), row[0]),) * rules)


class Keepers(unittest.TestCase, Checks):
    def test_constant(self):
        self.assertEqual(module.MAX_KEPT, 100)

    def test_commits_and_squeezes(self):
        disk = Disk()
        keeper = Keeper(disk, SOME)
        self.assertEqual((keeper.cube, keeper.number, keeper.base, keeper.commits, len(keeper), str(keeper)),
                         (SOME, 0, 0, (), 0, "keeper at 0, 0 behind the base"))
        self.assertEqual((disk.names, disk.read("log")), (("log",), log_text(SOME, 0, ())))
        self.assertEqual((keeper.commit("ann", (PUT,)), keeper.commit("bob", (RENAME, ("rules", ())))), (1, 2))
        self.assertEqual(keeper.commits, ((1, "ann", (PUT,)), (2, "bob", (RENAME, ("rules", ())))))
        self.assertEqual((keeper.number, len(keeper), str(keeper)), (2, 2, "keeper at 2, 2 behind the base"))
        self.assertEqual(disk.read("log"), log_text(SOME, 0, keeper.commits))
        line = Line(SOME)
        line.commit("ann", (PUT,)), line.commit("bob", (RENAME, ("rules", ())))
        self.assertEqual(keeper.cube, line.cube)
        self.assertIsNone(keeper.squeeze())
        self.assertEqual((keeper.cube, keeper.number, keeper.base, keeper.commits, str(keeper)),
                         (line.cube, 2, 2, (), "keeper at 2, 0 behind the base"))
        self.assertEqual((disk.names, disk.read("log")), (("log",), log_text(line.cube, 2, ())))
        self.assertEqual((keeper.commit("ann", (("cells", {}),)), keeper.base, str(keeper)), (3, 2, "keeper at 3, 1 behind the base"))
        self.assertRaises(TypeError, iter, keeper)

    def test_coming_up(self):
        disk = Disk()
        keeper = Keeper(disk, RULED)
        keeper.commit("ann", (PUT,)), keeper.squeeze(), keeper.commit("bob", (("cells", {JAN_A: None}),))
        up = Keeper.up(disk.lost(power=0))
        self.assertEqual(up, keeper)
        self.assertEqual((up.cube, up.number, up.base, up.commits), (keeper.cube, 2, 1, keeper.commits))
        # and it goes on from there
        disk = disk.lost()
        up = Keeper.up(disk)
        self.assertEqual((up.commit("eve", (("rules", ()),)), Keeper.up(disk.lost()).number), (3, 3))
        up.squeeze()
        self.assertEqual(Keeper.up(disk.lost()), up)
        self.assertEqual((up.base, keeper.number), (3, 2))

    def test_what_is_left_behind_the_last_newline_is_mended(self):
        disk = Disk()
        Keeper(disk, SOME)
        text = disk.read("log")
        disk.append("log", "(commit 1 ann (")
        left = disk.lost((0, 7))
        self.assertEqual(left.read("log"), text + "(commit")
        self.assertEqual(self.assert_raises(PowerLost, Keeper.up, left.lost(power=0)).taken, 0)
        up = Keeper.up(left)
        self.assertEqual((left.read("log"), left.names, up.number), (text, ("log",), 0))
        up.commit("ann", (PUT,))
        self.assertEqual(Keeper.up(left.lost()).commits, ((1, "ann", (PUT,)),))

    def test_a_disk_whose_power_was_not_lost(self):
        """What comes up is firm, whatever of it was firm ahead."""
        disk = Disk()
        Keeper(disk, SOME).commit("ann", (PUT,))
        disk.append("log", "(commit 2 bob ((rules ())))\n")
        self.assertEqual(Keeper.up(disk).number, 2)
        self.assertEqual(Keeper.up(disk.lost()).number, 2)
        disk.append("other", "x")
        disk.rename("other", "more")
        self.assertEqual(Keeper.up(disk).number, 2)
        self.assertEqual(disk.lost().names, ("log", "more"))

    def test_other_files(self):
        disk = Disk()
        for number in range(6):
            disk.append(f"n{number}", "x")
        disk.append("fresh", "of old")
        keeper = Keeper(disk, SOME)
        self.assertEqual((len(disk), "fresh" in disk), (7, False))
        keeper.commit("ann", (PUT,)), keeper.squeeze()
        disk.append("n6", "x")
        before = (disk.steps, disk.read("log"), disk.names)
        self.assertEqual(self.assert_raises(TooMany, keeper.squeeze).limit, 8)
        self.assertEqual((disk.steps, disk.read("log"), disk.names, keeper.base), before + (1,))
        self.assertEqual(keeper.commit("ann", (PUT,)), 2)
        disk.remove("n6")
        keeper.squeeze()
        self.assertEqual((keeper.base, disk.read("n0")), (2, "x"))

    def test_wrong_arguments(self):
        full = Disk()
        for number in range(8):
            full.append(f"n{number}", "")
        for value in odd_values():
            self.assert_raises(InvalidStore, Keeper, value, None)
            self.assert_raises(InvalidStore, Keeper.up, value)
            if value is not SOME:
                self.assert_raises(InvalidCube, Keeper, full, value)
        self.assertEqual(self.assert_raises(TooMany, Keeper, full, SOME).limit, 8)
        self.assertEqual(full.steps, 8)
        disk = Disk()
        self.assert_raises(InvalidStore, Keeper.up, disk)
        disk.append("log", "x")
        self.assert_raises(InvalidStore, Keeper, disk, None)
        self.assertEqual(self.assert_raises(ParseError, Keeper.up, disk).spot, 0)
        disk.append("log", "\n")
        self.assertEqual(self.assert_raises(ParseError, Keeper.up, disk).spot, 0)
        disk = Disk()
        disk.append("log", log_text(SOME, 0, ()) + "(commit 2 ann ((rules ())))\n")
        steps = disk.steps
        self.assertEqual((self.assert_raises(ParseError, Keeper.up, disk).spot, disk.steps), (1, steps))
        self.assertEqual(self.assert_raises(PowerLost, Keeper, Disk(power=2), SOME).taken, 2)

    def test_errors_of_commits(self):
        keeper = Keeper(Disk(power=7), SOME)
        keeper.commit("ann", (PUT,))
        before = (keeper.cube, keeper.number, keeper.commits)
        for author in odd_values():
            self.assert_raises(InvalidName, keeper.commit, author, None)
        for deeds in ((), None, [PUT], (PUT,) * 6):
            self.assert_raises(InvalidOperation, keeper.commit, "ann", deeds)
        self.assert_raises(InvalidOperation, keeper.commit, "ann", (PUT, None))
        self.assertEqual(self.assert_raises(Refused, keeper.commit, "ann", (PUT, ("edits", (("drop", "shop", "x"),)))).reason,
                         ("edit", 0, "unknown"))
        self.assertEqual((keeper.cube, keeper.number, keeper.commits), before)
        # the power is lost at its second step
        self.assertEqual(self.assert_raises(PowerLost, keeper.commit, "ann", (PUT,)).taken, 7)
        self.assertEqual((keeper.cube, keeper.number, keeper.commits), before)
        self.assertEqual(self.assert_raises(PowerLost, keeper.squeeze).taken, 7)
        self.assertEqual((keeper.base, keeper.commits), (0, before[2]))
        self.assert_raises(Refused, keeper.commit, "ann", (("edits", (("drop", "shop", "x"),)),))

    def test_a_hundred_commits_behind_the_base_and_one_more(self):
        disk = Disk()
        keeper = Keeper(disk, SOME)
        for number in range(1, 101):
            self.assertEqual(keeper.commit("ann", (("cells", {JAN_A: (number, 1)}),)), number)
        self.assert_raises(InvalidOperation, keeper.commit, "ann", ())
        self.assertEqual(self.assert_raises(TooMany, keeper.commit, "ann", (None,)).limit, 100)
        self.assertEqual(Keeper.up(disk.lost()), keeper)
        self.assertEqual(self.assert_raises(TooMany, Keeper.up(disk.lost()).commit, "ann", (PUT,)).limit, 100)
        keeper.squeeze()
        self.assertEqual((keeper.commit("ann", (PUT,)), len(keeper), Keeper.up(disk.lost()).number), (101, 1, 101))

    def test_texts_that_are_too_long(self):
        cube = long_cube(10)
        self.assertLess(len(log_text(cube, 0, ())), 120000)
        disk = Disk()
        keeper = Keeper(disk, cube)
        deed = ("rules", cube.rules[:3])
        count = 0
        while raised(keeper.commit, "ann", (deed,)) is None:
            count += 1
        self.assertEqual(self.assert_raises(TooMany, keeper.commit, "ann", (deed,)).limit, 200000)
        self.assertEqual((keeper.number, len(keeper), Keeper.up(disk.lost()) == keeper), (count, count, True))
        self.assertEqual(keeper.commit("ann", (("rules", ()),)), count + 1)
        keeper.squeeze()
        self.assertEqual((keeper.commit("ann", (deed,)), len(keeper)), (count + 2, 1))
        great = long_cube(30)
        self.assertGreater(len(log_text(great, 0, ())), 200000)
        empty = Disk()
        empty.append("fresh", "x")
        self.assertEqual(self.assert_raises(TooMany, Keeper, empty, great).limit, 200000)
        self.assertEqual((empty.steps, empty.names), (1, ("fresh",)))

    def test_the_longest_log_and_one_sign_more(self):
        cube = long_cube(18)
        names = cube.outline.sides[0].leaves
        part = cube.rules[0].formula
        while part[0] == "plus":
            part = part[1]

        def missing(*rules):
            return 200000 - len(log_text(cube.with_rules(cube.rules + rules), 0, ()))
        while missing() > 900:
            cube = cube.with_rules(cube.rules + (Rule((None,), part),))
        # what is missing now is filled by members of areas, and then by digits of a worth
        fillers = [Rule((names[:1],), number(1)) for _ in range(3)]
        for at in range(3):
            while missing(*fillers) > 9 and len(fillers[at].area[0]) < 30:
                fillers[at] = Rule((names[:len(fillers[at].area[0]) + 1],), number(1))
        fillers[2] = Rule(fillers[2].area, number(10 ** missing(*fillers)))
        cube = cube.with_rules(cube.rules + tuple(fillers))
        self.assertEqual(len(log_text(cube, 0, ())), 200000)
        disk = Disk()
        disk.append("fresh", "x")
        keeper = Keeper(disk, cube)
        self.assertEqual((len(disk.read("log")), keeper.squeeze(), Keeper.up(disk.lost()) == keeper), (200000, None, True))
        self.assertEqual(self.assert_raises(TooMany, keeper.commit, "ann", (("cells", {}),)).limit, 200000)
        longer = cube.with_rules(cube.rules[:-1] + (Rule(fillers[2].area, number(fillers[2].formula[1][0] * 10)),))
        disk = Disk()
        disk.append("fresh", "x")
        self.assertEqual((self.assert_raises(TooMany, Keeper, disk, longer).limit, disk.steps, disk.read("fresh")), (200000, 1, "x"))

    def test_equality(self):
        def made(*calls, cube=SOME):
            keeper = Keeper(Disk(), cube)
            for call in calls:
                getattr(keeper, call[0])(*call[1:])
            return keeper
        commit = ("commit", "ann", (PUT,))
        self.assertEqual(made(commit), made(("commit", "ann", (("cells", {("jan", "b"): None, MAR_A: (1, 1)}),))))
        for other in (made(), made(commit, ("squeeze",)), made(("commit", "bob", (PUT,))), made(commit, cube=RULED), made(commit, commit)):
            self.assertNotEqual(made(commit), other)
        for value in odd_values():
            self.assertFalse(made() == value)
            self.assertTrue(made() != value)

    def test_nothing_is_shared(self):
        changes = {MAR_A: ONE}
        keeper = Keeper(Disk(), SOME)
        keeper.commit("ann", (("cells", changes),))
        changes.clear()
        keeper.commits[0][2][0][1].clear()
        self.assertEqual(keeper.commits, ((1, "ann", (("cells", {MAR_A: ONE}),)),))


class Losses(unittest.TestCase, Checks):
    """The power is lost behind each number of steps; what comes up is the last commit that was returned, or the next one."""

    def choices(self, chance):
        return tuple(chance.random.randint(0, 400) for _ in range(chance.random.randint(0, 4)))

    def run_until_lost(self, keeper, calls, state):
        """Does the calls until the power is lost; whether it was.

        The state has the number of calls done, the cubes that can come up with their numbers, and the base.
        """
        while state["done"] < len(calls):
            call = calls[state["done"]]
            before = (keeper.cube, keeper.number, keeper.base, keeper.commits)
            behind = Line(keeper.cube)
            if call[0] == "commit":
                behind.commit(*call[1:])
            state["allowed"] = [(keeper.cube, keeper.number), (behind.cube, keeper.number + len(behind))]
            try:
                told = getattr(keeper, call[0])(*call[1:])
            except PowerLost:
                self.assertEqual((keeper.cube, keeper.number, keeper.base, keeper.commits), before)
                return True
            state["done"] += 1
            state["allowed"] = [(keeper.cube, keeper.number)]
            if call[0] == "commit":
                self.assertEqual((told, keeper.cube), (before[1] + 1, behind.cube))
            else:
                self.assertEqual((told, keeper.base, keeper.cube, keeper.commits), (None, before[1], before[0], ()))
        return False

    def come_up(self, chance, disk, state):
        """Comes up, with further losses of power on the way; the disk and the keeper."""
        for tried in range(100):
            power = chance.random.randint(0, 5) if tried < 6 else None
            disk = disk.lost(self.choices(chance), power=power)
            try:
                keeper = Keeper.up(disk)
            except PowerLost:
                continue
            self.assertIn((keeper.cube, keeper.number), state["allowed"])
            state["allowed"] = [(keeper.cube, keeper.number)]
            # What came up stays, whatever is lost then.
            disk = disk.lost(self.choices(chance))
            again = Keeper.up(disk)
            self.assertEqual((again.cube, again.number), (keeper.cube, keeper.number))
            return disk, again
        self.fail("it never comes up")

    def calls(self, chance, cube):
        line, calls = Line(cube), []
        for _ in range(chance.random.randint(2, 5)):
            if chance.random.random() < 0.35:
                calls.append(("squeeze",))
                continue
            deeds = tuple(a_deed(chance, line.cube) for _ in range(chance.random.randint(1, 2)))
            if raised(line.commit, "ann", deeds) is None:
                calls.append(("commit", "ann", deeds))
        return calls

    def test_each_number_of_steps(self):
        lost = 0
        for seed in range(25):
            chance = Chance(f"keeper {seed}")
            cube = chance.cube()
            calls = self.calls(chance, cube)
            whole = Disk()
            keeper = Keeper(whole, cube)
            self.run_until_lost(keeper, calls, {"done": 0})
            for power in range(4, whole.steps + 1):
                for _ in range(3):
                    disk = Disk(power=power)
                    keeper, state = Keeper(disk, cube), {"done": 0}
                    while True:
                        was_lost = self.run_until_lost(keeper, calls, state)
                        lost += was_lost
                        disk, keeper = self.come_up(chance, disk, state)
                        if not was_lost:
                            break
                        # a commit under way that came up is not done anew
                        if calls[state["done"]][0] == "commit" and keeper.number > self.number_of(calls, state):
                            state["done"] += 1
                    self.assertEqual(keeper.number, sum(call[0] == "commit" for call in calls))
                    line = Line(cube)
                    for call in calls:
                        line.commit(*call[1:]) if call[0] == "commit" else None
                    self.assertEqual(keeper.cube, line.cube)
        self.assertGreater(lost, 500)

    def number_of(self, calls, state):
        return sum(call[0] == "commit" for call in calls[:state["done"]])

    def test_all_choices_of_one_commit_and_of_one_squeeze(self):
        """Each loss there can be, for each number of steps, taken sign by sign."""
        for call in (("commit", "ann", (("cells", {MAR_A: ONE}),)), ("squeeze",)):
            ways = 0
            for power in range(6, 11):
                disk = Disk(power=power)
                keeper = Keeper(disk, SOME)
                keeper.commit("bob", (("cells", {JAN_A: (7, 1)}),))
                first = keeper.cube
                error = raised(getattr(keeper, call[0]), *call[1:])
                firm = first if error else keeper.cube
                for names in range(4):
                    for signs in list(range(0, 60)) + [400]:
                        left = disk.lost((names, signs, signs))
                        up = Keeper.up(left)
                        self.assertIn(up.cube, [firm, first.with_cells({MAR_A: ONE})] if call[0] == "commit" else [first])
                        if error is None:
                            self.assertEqual((up.cube, up.number), (keeper.cube, keeper.number))
                        ways += up.number != 1
                        self.assertEqual(up.number, 1 if up.cube == first else 2)
            self.assertEqual(ways > 0, call[0] == "commit")

    def test_losses_while_it_comes_up_again_and_again(self):
        disk = Disk()
        keeper = Keeper(disk, SOME)
        keeper.commit("ann", (PUT,))
        disk.append("log", "(commit 2 ann ((rul")
        for power in range(6):
            for names in range(4):
                for signs in (0, 1, 30, 150, 400):
                    left = disk.lost((0, 19)).lost(power=power)
                    error = raised(Keeper.up, left)
                    self.assertEqual(error is None, power >= 4)
                    left = left.lost((names, signs, signs), power=power)
                    raised(Keeper.up, left)
                    up = Keeper.up(left.lost((names, signs, signs)))
                    self.assertEqual((up.cube, up.number, up.commits), (keeper.cube, 1, keeper.commits))

    def test_a_log_is_always_there(self):
        """Whatever stays of a squeeze, the log is the one ahead or the new one, whole."""
        disk = Disk()
        keeper = Keeper(disk, RULED)
        keeper.commit("ann", (("rules", ()),))
        old = disk.read("log")
        keeper.squeeze()
        new = disk.read("log")
        for power in range(6, 11):
            disk = Disk(power=power)
            keeper = Keeper(disk, RULED)
            keeper.commit("ann", (("rules", ()),))
            raised(keeper.squeeze)
            for names in range(4):
                for signs in range(0, 300, 7):
                    text = disk.lost((names, signs, signs)).read("log")
                    self.assertIn(text, (old, new))
                    self.assertEqual(read_log(text)[3], len(text))

    def test_a_hundred_and_first_commit_behind_a_lost_power(self):
        cube, places = wide(3)
        disk = Disk()
        keeper = Keeper(disk, cube)
        for number in range(100):
            keeper.commit("ann", (("cells", {places[number]: ONE}),))
        keeper = Keeper.up(disk.lost((3, 3, 3)))
        self.assertEqual((keeper.number, self.assert_raises(TooMany, keeper.commit, "ann", (PUT,)).limit), (100, 100))


if __name__ == "__main__":
    unittest.main()
