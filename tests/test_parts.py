import sys
import unittest

from sumstead.errors import InvalidCells, InvalidCube, InvalidNumber, InvalidPlace, InvalidStore, Refused, TooMany, UnknownName
from sumstead.outline.outlines import Outline, Side
from sumstead.parts import parts as module
from sumstead.parts.parts import Parts
from sumstead.plain.cubes import Cube

from chance import Chance
from examples import LOOP, ONE, RULED, SOME, Checks, odd_values
from test_line import wide

JAN_A, JAN_B, FEB_A, MAR_A, MAR_B = ("jan", "a"), ("jan", "b"), ("feb", "a"), ("mar", "a"), ("mar", "b")
TOP = ("all", "both")
CHANGES = {MAR_A: (1, 1), JAN_B: None}


def work_of(call):
    """What a call returns, and how many of Python's own steps it takes."""
    steps = 0

    def trace(frame, event, _):
        nonlocal steps
        frame.f_trace_opcodes = True
        steps += event == "opcode"
        return trace

    ahead = sys.gettrace()
    # Python 3.12 tells of single steps only if a frame has asked for them ahead of settrace.
    sys._getframe().f_trace_opcodes = True
    sys.settrace(trace)
    try:
        result = call()
    finally:
        sys.settrace(ahead)
    return result, steps


class PartsOfCubes(unittest.TestCase, Checks):
    def test_constants(self):
        self.assertEqual((module.MAX_PARTS, module.MAX_SENT), (8, 100))

    def test_the_example(self):
        parts = Parts(SOME, "shop", (1,))
        self.assertEqual([parts.send({("mar", "a"): (1, 1), ("jan", "b"): None}), parts.fetch(0), parts.sure, parts.answer(TOP),
                          parts.fetch(1), parts.answer(TOP),
                          parts.rows], [1, 1, 0, ("worth", (21, 2)), 1, ("worth", (11, 1)), ((1, 0), (1, 0))])

    def test_properties(self):
        parts = Parts(SOME, "time", (1, 2))
        self.assertEqual((parts.name, parts.cuts, parts.stretches, parts.sent, parts.oldest, parts.sure, parts.rows, len(parts)),
                         ("time", (1, 2), (("jan",), ("feb",), ("mar",)), 0, 0, 0, ((0, 0),) * 3, 3))
        self.assertEqual((str(parts), Parts(SOME, "shop").stretches), ("3 parts of time, sure 0 of 0", (("a", "b"),)))
        for _ in range(5):
            parts.send(CHANGES)
        for index, count in enumerate((3, 5, 4)):
            self.assertEqual(parts.fetch(index, count), count)
        self.assertEqual((str(parts), parts.rows), ("3 parts of time, sure 3 of 5", ((3, 0), (5, 0), (4, 0))))
        self.assertRaises(TypeError, iter, parts)
        for value in odd_values():
            self.assertFalse(parts == value)
            self.assertTrue(parts != value)

    def test_wrong_arguments(self):
        for value in odd_values():
            if value is not SOME:
                self.assert_raises(InvalidCube, Parts, value, None)
            self.assertIs(self.assert_raises(UnknownName, Parts, SOME, value, None).asked, value)
            if value not in ((), (1,)):
                self.assert_raises(InvalidStore, Parts, SOME, "shop", value)
        for cuts in ((0,), (3,), (2, 1), (1, 1), [1], 1, (True,), (1, 2, 3), (-1,)):
            self.assert_raises(InvalidStore, Parts, SOME, "time", cuts)
        names = tuple(f"n{n}" for n in range(20))
        cube = Cube(Outline((Side("s", names),)))
        self.assertEqual(len(Parts(cube, "s", (1, 2, 3, 4, 5, 6, 19))), 8)
        self.assert_raises(InvalidStore, Parts, cube, "s", (1, 2, 3, 4, 5, 6, 7, 19))

    def test_sending(self):
        parts = Parts(SOME, "shop", (1,))
        for value in odd_values() + [{("jan", "both"): ONE}, {JAN_A: (True, 1)}]:
            if value != {}:
                self.assert_raises(InvalidCells, parts.send, value)
        changes = dict(CHANGES)
        self.assertEqual((parts.send(changes), parts.send({})), (1, 2))
        changes.clear()
        parts.fetch(0, 2)
        self.assertEqual(parts.cells_in(0), {FEB_A: (6, 1), JAN_A: (4, 1), MAR_A: (1, 1)})
        for number in range(3, 101):
            self.assertEqual(parts.send({JAN_A: (number, 1)}), number)
        self.assertEqual(self.assert_raises(TooMany, parts.send, {}).limit, 100)
        self.assert_raises(InvalidCells, parts.send, None)
        self.assertEqual((parts.sent, parts.fetch(0, 98), parts.cells_in(0)[JAN_A]), (100, 100, (100, 1)))
        # what was forgotten counts, too
        parts.fetch(1, 100), parts.follow(0, 100), parts.follow(1, 100)
        parts.forget(100)
        self.assertEqual(self.assert_raises(TooMany, parts.send, {}).limit, 100)

    def test_three_hundred_cells_and_one_more(self):
        cube, places = wide(299)
        parts = Parts(cube, "p", (3,))
        self.assertEqual(parts.send({places[299]: ONE}), 1)
        self.assertEqual(self.assert_raises(TooMany, parts.send, {places[300]: ONE}).limit, 300)
        self.assertEqual((parts.sent, parts.send({places[300]: ONE, places[0]: None})), (1, 2))

    def test_which_changes_count_as_cells(self):
        cube, places = wide(298)
        parts = Parts(cube, "p", (3,))
        # a cell that is put anew is no further one, and where there is none, none goes
        self.assertEqual(parts.send({places[n]: (0, 1) for n in range(300)}), 1)
        for changes in ({places[300]: ONE}, {places[0]: (2, 1), places[300]: ONE}, {places[301]: None, places[300]: ONE},
                        {places[0]: None, places[300]: ONE, places[301]: ONE}):
            self.assertEqual(self.assert_raises(TooMany, parts.send, changes).limit, 300)
        self.assertEqual((parts.send({places[n]: None for n in range(400)}), parts.send({places[399]: None})), (2, 3))
        self.assertEqual(parts.send({places[n]: ONE for n in range(300)}), 4)
        # what is refused has no effect: neither what would come nor what would go
        self.assert_raises(TooMany, parts.send, {places[0]: None, places[1]: None, **{places[n]: ONE for n in range(300, 303)}})
        self.assertEqual(self.assert_raises(TooMany, parts.send, {places[300]: ONE}).limit, 300)
        self.assertEqual((parts.send({places[0]: None}), parts.send({places[300]: ONE})), (5, 6))
        # cells of moments that are forgotten, and of parts that fall or are cut anew, count as before
        for call in (parts.fetch, parts.follow):
            call(0, 6), call(1, 6)
        parts.forget(6), parts.fall(0), parts.shift(0, 7)
        self.assertEqual(self.assert_raises(TooMany, parts.send, {places[0]: ONE}).limit, 300)
        self.assertEqual(parts.send({places[300]: None, places[0]: ONE}), 7)

    def test_too_many_changes_come_ahead_of_too_many_cells(self):
        cube, places = wide(300)
        parts = Parts(cube, "p")
        self.assertEqual([parts.send({places[n]: None, places[n + 300]: ONE}) for n in range(100)], list(range(1, 101)))
        self.assertEqual(self.assert_raises(TooMany, parts.send, {places[0]: ONE}).limit, 100)
        self.assert_raises(InvalidCells, parts.send, {places[0]: None, places[1]: (1, 1001)})

    def test_a_send_looks_at_its_own_changes_only(self):
        outline = Outline((Side("x", tuple(f"x{n}" for n in range(30))), Side("y", tuple(f"y{n}" for n in range(11)))))
        places = sorted(outline.leaf_places())
        works = []
        for many in (0, 299):
            parts = Parts(Cube(outline, (), {place: ONE for place in places[:many]}), "x", (15,))
            self.assertEqual(parts.send({places[299]: (2, 1)}), 1)
            numbers, work = work_of(lambda: [parts.send({}) for _ in range(49)] + [parts.send({places[299]: (n, 1)}) for n in range(50)])
            self.assertEqual((numbers, parts.sent), (list(range(2, 101)), 100))
            works.append(work)
        self.assertGreater(works[0], 99)
        self.assertEqual(works[0], works[1])

    def test_fetching_and_following(self):
        parts = Parts(SOME, "shop", (1,))
        for index in odd_values() + [2, -1, True]:
            if index not in (0, 1) or type(index) is bool:
                for call in (parts.fetch, parts.follow):
                    self.assertIs(self.assert_raises(InvalidNumber, call, index, None).given, index)
                self.assert_raises(InvalidNumber, parts.fall, index)
                self.assert_raises(InvalidNumber, parts.cells_in, index, "x")
        self.assertEqual(self.assert_raises(InvalidNumber, parts.fetch, 0).given, 1)
        for _ in range(3):
            parts.send(CHANGES)
        self.assertEqual(self.assert_raises(InvalidNumber, parts.follow, 0).given, 1)
        for count in odd_values() + [0, 4, -1, True]:
            if count not in (1, 2, 3) or type(count) is bool:
                self.assertIs(self.assert_raises(InvalidNumber, parts.fetch, 0, count).given, count)
        self.assertEqual((parts.fetch(0, 2), parts.rows), (2, ((2, 0), (0, 0))))
        self.assertEqual(self.assert_raises(InvalidNumber, parts.follow, 0, 3).given, 3)
        self.assertEqual((parts.follow(0), parts.follow(0), parts.rows), (1, 2, ((2, 2), (0, 0))))
        self.assert_raises(InvalidNumber, parts.fetch, 0, 2)
        self.assertEqual((parts.fetch(0), parts.fetch(1, 3), parts.sure), (3, 3, 3))

    def test_falls(self):
        parts = Parts(SOME, "shop", (1,))
        parts.send({JAN_A: (5, 1), JAN_B: (7, 1)})
        parts.send({JAN_A: None})
        parts.fetch(0, 2), parts.fetch(1, 2), parts.follow(0)
        self.assertEqual((parts.sure, parts.answer(("jan", "both"))), (2, ("worth", (7, 1))))
        self.assertEqual((parts.fall(0), parts.rows, parts.sure), (1, ((1, 1), (2, 0)), 1))
        self.assertEqual(parts.answer(("jan", "both")), ("worth", (12, 1)))
        self.assert_raises(InvalidNumber, parts.answer, TOP, 2)
        self.assertEqual((parts.fall(1), parts.answer(("jan", "both"))), (0, ("worth", (9, 2))))
        # sure again, with the same answers
        self.assertEqual((parts.fetch(0), parts.fetch(1, 2), parts.answer(("jan", "both"))), (2, 2, ("worth", (7, 1))))
        # the new copy changes by itself
        self.assertEqual((parts.fall(0), parts.fetch(0), parts.rows[0], parts.fall(0)), (1, 2, (2, 1), 1))

    def test_shifts(self):
        parts = Parts(SOME, "time", (1, 2))
        parts.send({MAR_A: (9, 1), MAR_B: (8, 1), JAN_A: None})
        for index in range(3):
            parts.fetch(index)
        self.assertEqual(parts.cells_in(1), {FEB_A: (6, 1)})
        for index in odd_values() + [2, -1, True, False]:
            if index not in (0, 1) or type(index) is bool:
                self.assertIs(self.assert_raises(InvalidNumber, parts.shift, index, None).given, index)
        for index, wrong in ((0, (0, 2, -1, 3, True, None)), (1, (1, 3, 0))):
            for cut in wrong:
                self.assertIs(self.assert_raises(InvalidNumber, parts.shift, index, cut).given, cut)
        self.assertIsNone(parts.shift(0, 1))
        self.assertEqual(parts, self.followed(Parts(SOME, "time", (1, 2))))
        wide_parts = Parts(SOME, "time", (1,))
        wide_parts.send({MAR_A: (9, 1), MAR_B: (8, 1), JAN_A: None})
        wide_parts.fetch(0), wide_parts.fetch(1)
        self.assertIsNone(wide_parts.shift(0, 2))
        self.assertEqual((wide_parts.cuts, wide_parts.stretches), ((2,), (("jan", "feb"), ("mar",))))
        # cells of all kept moments go along, also those of copies
        self.assertEqual([wide_parts.cells_in(0, moment) for moment in (0, 1)], [SOME.cells, {FEB_A: (6, 1), JAN_B: (1, 2)}])
        self.assertEqual([wide_parts.cells_in(1, moment) for moment in (0, 1)], [{}, {MAR_A: (9, 1), MAR_B: (8, 1)}])
        self.assertEqual((wide_parts.fall(0), wide_parts.cells_in(0)), (0, SOME.cells))

    def followed(self, parts):
        parts.send({MAR_A: (9, 1), MAR_B: (8, 1), JAN_A: None})
        for index in range(len(parts)):
            parts.fetch(index)
        return parts

    def test_uneven_parts_are_not_shifted(self):
        parts = Parts(SOME, "time", (1, 2))
        parts.send(CHANGES)
        parts.fetch(0)
        self.assertEqual(self.assert_raises(Refused, parts.shift, 0, 1).reason, ("uneven", 0))
        self.assertEqual((parts.shift(1, 2), parts.cuts), (None, (1, 2)))
        self.assert_raises(InvalidNumber, parts.shift, 0, 2)
        parts.fetch(1)
        self.assertIsNone(parts.shift(0, 1))
        # the copies, too
        parts.follow(1)
        self.assertEqual(self.assert_raises(Refused, parts.shift, 0, 1).reason, ("uneven", 0))
        self.assertEqual(self.assert_raises(Refused, parts.shift, 1, 2).reason, ("uneven", 1))
        parts.follow(0)
        self.assertIsNone(parts.shift(0, 1))

    def test_moments_that_are_forgotten(self):
        parts = Parts(SOME, "shop", (1,))
        for number in range(1, 5):
            parts.send({JAN_A: (number, 1), JAN_B: (number, 1)})
        parts.fetch(0, 4), parts.fetch(1, 3), parts.follow(0, 2), parts.follow(1, 2)
        for moment in odd_values() + [-1, 3, True]:
            if moment not in (0, 1, 2) or type(moment) is bool:
                self.assertIs(self.assert_raises(InvalidNumber, parts.forget, moment).given, moment)
        self.assertEqual((parts.forget(0), parts.forget(2), parts.oldest, parts.sure, parts.sent), (None, None, 2, 3, 4))
        self.assert_raises(InvalidNumber, parts.forget, 1)
        for moment in (0, 1, 4, True, -1, "2"):
            self.assertIs(self.assert_raises(InvalidNumber, parts.answer, TOP, moment).given, moment)
        self.assert_raises(InvalidNumber, parts.cells_in, 0, 1)
        self.assert_raises(InvalidNumber, parts.cells_in, 1, 4)
        self.assertEqual((parts.cells_in(0)[JAN_A], parts.cells_in(0, 2)[JAN_A], parts.cells_in(1)[JAN_B]), ((4, 1), (2, 1), (3, 1)))
        self.assertEqual([parts.answer(("jan", "both"), moment) for moment in (2, 3, None)],
                         [("worth", (4, 1)), ("worth", (6, 1)), ("worth", (6, 1))])
        self.assertEqual((parts.fall(0), parts.sure, parts.fetch(0, 2), parts.answer(("jan", "both"), 3)), (2, 2, 4, ("worth", (6, 1))))

    def test_answers(self):
        parts = Parts(RULED, "time", (1,))
        for place in RULED.outline.places():
            self.assertEqual((parts.answer(place), parts.answer(place, 0), parts.answer(place, None)), (RULED.answer(place),) * 3)
        for value in odd_values() + [("jan", "c")]:
            self.assert_raises(InvalidPlace, parts.answer, value, "x")
        self.assertEqual(Parts(LOOP, "shop", (1,)).answer(TOP), LOOP.answer(TOP))
        parts.cells_in(0).clear()
        self.assertEqual(len(parts.cells_in(0)), 2)

    def test_no_answer_mixes_two_moments(self):
        parts = Parts(SOME, "shop", (1,))
        parts.send({JAN_A: (100, 1), JAN_B: (100, 1)})
        parts.fetch(0)
        self.assertEqual(parts.answer(("jan", "both")), ("worth", (9, 2)))
        parts.fetch(1)
        self.assertEqual((parts.answer(("jan", "both")), parts.answer(("jan", "both"), 0)), (("worth", (200, 1)), ("worth", (9, 2))))

    def test_equality(self):
        def made(*calls, cube=SOME, name="time", cuts=(1,)):
            parts = Parts(cube, name, cuts)
            for call in calls:
                getattr(parts, call[0])(*call[1:])
            return parts
        history = (("send", CHANGES), ("send", {}), ("fetch", 0, 2), ("fetch", 1, 2), ("follow", 0, 2), ("follow", 1))
        one = made(*history)
        told_otherwise = (("send", {JAN_B: None, MAR_A: (1, 1)}), ("fetch", 1), ("fetch", 0), ("send", {}), ("fetch", 0),
                          ("fetch", 1), ("follow", 0, 2),
                          ("fall", 0), ("follow", 1))
        self.assertEqual(one, made(*told_otherwise))
        self.assertEqual(made(*history, ("forget", 1)), made(*told_otherwise, ("forget", 1)))
        self.assertEqual(made(("shift", 0, 2)), made(cuts=(2,)))
        for other in (made(), made(*history, ("fall", 1)), made(*history, ("forget", 1)), made(*history, cube=RULED),
                      made(*history, cuts=(2,)),
                      made(*history, cube=SOME.with_cells({MAR_A: ONE})), made(("send", {}), *history[1:]), made(*history, ("send", {})),
                      made(*history, cube=SOME.with_cells({JAN_A: ONE}))):
            self.assertNotEqual(one, other)
        self.assertNotEqual(made(name="time", cuts=()), made(name="shop", cuts=()))


class Drawn(unittest.TestCase, Checks):
    """Drawn calls, held against a row of cubes."""

    def parts(self, chance, cube):
        side = max(cube.outline.sides, key=lambda side: len(side.leaves))
        cuts = tuple(sorted(chance.random.sample(range(1, len(side.leaves)), chance.random.randint(0, len(side.leaves) - 1))))
        return Parts(cube, side.name, cuts)

    def look(self, parts, cubes, moments, copies, oldest):
        at = cubes[0].outline.index(parts.name)
        self.assertEqual((parts.sent, parts.oldest, parts.sure, parts.rows), (len(cubes) - 1, oldest, min(moments),
                tuple(zip(moments, copies))))
        for index, stretch in enumerate(parts.stretches):
            for moment in range(oldest, moments[index] + 1):
                expected = {place: worth for place, worth in cubes[moment].cells.items() if place[at] in stretch}
                self.assertEqual(parts.cells_in(index, moment), expected)
            self.assertEqual(list(parts.cells_in(index)), sorted(parts.cells_in(index)))

    def act(self, chance, parts, cubes, moments, copies, oldest):
        """Does a drawn call, and what it means to the lists; the oldest moment then."""
        index = chance.random.randrange(len(parts))
        draw = chance.random.random()
        if draw < 0.2:
            places = list(cubes[0].outline.leaf_places())
            changes = {place: chance.one_of((None, chance.worth())) for place in chance.random.sample(places, min(3, len(places)))}
            self.assertEqual(parts.send(changes), len(cubes))
            cubes.append(cubes[-1].with_cells(changes))
        elif draw < 0.55:
            count = chance.random.randint(1, 3)
            if moments[index] + count < len(cubes):
                moments[index] += count
                self.assertEqual(parts.fetch(index, count), moments[index])
            else:
                self.assert_raises(InvalidNumber, parts.fetch, index, count)
        elif draw < 0.75:
            if copies[index] < moments[index]:
                copies[index] += 1
                self.assertEqual(parts.follow(index), copies[index])
            else:
                self.assert_raises(InvalidNumber, parts.follow, index)
        elif draw < 0.85:
            moments[index] = copies[index]
            self.assertEqual(parts.fall(index), moments[index])
        elif draw < 0.95:
            self.shift(chance, parts, moments, copies)
        else:
            least = min(moments + copies)
            oldest = chance.random.randint(oldest, least)
            parts.forget(oldest)
        return oldest

    def shift(self, chance, parts, moments, copies):
        if not parts.cuts:
            return
        index = chance.random.randrange(len(parts.cuts))
        leaves = sum(len(stretch) for stretch in parts.stretches)
        ends = (0,) + parts.cuts + (leaves,)
        cut = chance.random.randint(ends[index] + 1, ends[index + 2] - 1)
        if moments[index] == moments[index + 1] and copies[index] == copies[index + 1]:
            parts.shift(index, cut)
            self.assertEqual(parts.cuts[index], cut)
        else:
            self.assertEqual(self.assert_raises(Refused, parts.shift, index, cut).reason, ("uneven", index))

    def test_drawn_parts(self):
        answers = 0
        for seed in range(70):
            chance = Chance(f"parts {seed}")
            cubes = [chance.cube()]
            parts = self.parts(chance, cubes[0])
            moments, copies, oldest = [0] * len(parts), [0] * len(parts), 0
            places = list(cubes[0].outline.places())
            for _ in range(60):
                oldest = self.act(chance, parts, cubes, moments, copies, oldest)
                self.look(parts, cubes, moments, copies, oldest)
                for moment in range(oldest, min(moments) + 1):
                    place = chance.one_of(places)
                    self.assertEqual(parts.answer(place, moment), cubes[moment].answer(place))
                    answers += 1
                place = chance.one_of(places)
                self.assertEqual(parts.answer(place), cubes[min(moments)].answer(place))
                self.assert_raises(InvalidNumber, parts.answer, place, min(moments) + 1)
        self.assertGreater(answers, 4000)

    def test_drawn_sends_of_nearly_too_many_cells(self):
        done, refused = 0, 0
        for seed in range(12):
            chance = Chance(f"many {seed}")
            cube, places = wide(chance.random.randint(296, 300))
            parts = Parts(cube, "q", (5,))
            cubes = [cube]
            for _ in range(60):
                changes = {place: chance.one_of((None, ONE, ONE, (0, 1))) for place in chance.random.sample(places, chance.random.randint(0, 6))}
                try:
                    cubes.append(cubes[-1].with_cells(changes))
                except TooMany:
                    self.assertEqual(self.assert_raises(TooMany, parts.send, changes).limit, 300)
                    refused += 1
                else:
                    self.assertEqual(parts.send(changes), len(cubes) - 1)
                    done += 1
            for index in range(2):
                parts.fetch(index, len(cubes) - 1)
            for moment, expected in enumerate(cubes):
                self.assertEqual({**parts.cells_in(0, moment), **parts.cells_in(1, moment)}, expected.cells)
        self.assertGreater(min(done, refused), 50)

    def test_one_history_told_in_two_ways(self):
        """[23.1] Objects are equal by their moments and cells, whatever calls led there."""
        for seed in range(60):
            chance = Chance(f"two ways {seed}")
            cube = chance.cube()
            one = self.parts(chance, cube)
            cubes, moments, copies, oldest = [cube], [0] * len(one), [0] * len(one), 0
            sent = []
            send = one.send
            one.send = lambda changes: sent.append(changes) or send(changes)
            for _ in range(30):
                oldest = self.act(chance, one, cubes, moments, copies, oldest)
            other = Parts(cube, one.name, one.cuts)
            for changes in sent:
                other.send(changes)
            for index in range(len(one)):
                for count, call in ((moments[index], other.fetch), (copies[index], other.follow)):
                    if count:
                        call(index, count)
            other.forget(oldest)
            self.assertEqual(one, other)
            other.send({})
            self.assertNotEqual(one, other)


if __name__ == "__main__":
    unittest.main()
