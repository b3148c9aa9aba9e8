import itertools
import unittest

from sumstead.errors import (InvalidCells, InvalidOperation, InvalidOutline, InvalidPlace, InvalidRule, InvalidStore, InvalidWorth,
                             TooMany, UnknownName)
from sumstead.outline.outlines import Outline, Side
from sumstead.plain.cubes import Cube
from sumstead.store import blocks
from sumstead.store.blocks import BlockStore, store_of_room
from sumstead.store.codings import coded, codings

from chance import Chance
from examples import FLAT, GROWTH, ONE, SHOP, SOME, TIME, Checks, odd_values

TOP, JAN = ("all", "both"), ("jan", "a")
NAMES = tuple(f"n{n}" for n in range(30))


class Model:
    """A second store: a list of characters, and the rows of all blocks."""

    def __init__(self, outline, dense, cells):
        self.outline = outline
        self.dense = [outline.names.index(name) for name in dense]
        self.seats = list(itertools.product(*(outline.sides[index].leaves for index in self.dense)))
        self.room = []
        self.spans = {}
        self.rows = {}
        for place in sorted(cells):
            self.put(place, cells[place])

    def key(self, place):
        return tuple(name for index, name in enumerate(place) if index not in self.dense)

    def seat(self, place):
        return self.seats.index(tuple(place[index] for index in self.dense))

    def put(self, place, entry):
        key = self.key(place)
        row = self.rows.get(key, [None] * len(self.seats))
        if row[self.seat(place)] == entry:
            return False
        row[self.seat(place)] = entry
        self.rows[key] = row
        if key in self.spans:
            begin, end = self.spans.pop(key)
            self.room[begin:end] = "_" * (end - begin)
            while self.room and self.room[-1] == "_":
                self.room.pop()
        if any(one is not None for one in row):
            text = coded(tuple(row))
            begin = next((at for at in range(len(self.room) - len(text) + 1)
                          if set(self.room[at:at + len(text)]) == {"_"}), len(self.room))
            self.room[begin:begin + len(text)] = text
            self.spans[key] = (begin, begin + len(text))
        else:
            del self.rows[key]
        return True

    def free(self):
        found, at = [], 0
        for free, signs in itertools.groupby(self.room, lambda sign: sign == "_"):
            many = len(list(signs))
            if free:
                found.append((at, at + many))
            at += many
        return tuple(found)


class Blocks(unittest.TestCase, Checks):
    def test_constants(self):
        self.assertEqual((blocks.MAX_DENSE, blocks.FREE), (1000, "_"))

    def test_example(self):
        store = BlockStore(FLAT, ("time",), SOME.cells)
        told = [store.room, store.spans, store.seat(("feb", "b")), store.answer(("all", "both"), keys=(("b",), ("a",)))]
        self.assertEqual(told, ['p:4,6,.p:1/2,.,.', {('a',): (0, 7), ('b',): (7, 16)}, 1, ('worth', (21, 2))])

    def test_properties(self):
        store = BlockStore(FLAT, ("time",), SOME.cells)
        self.assertEqual((store.outline, store.dense, store.free, store.cells), (FLAT, ("time",), (), SOME.cells))
        self.assertEqual(list(store.cells), sorted(SOME.cells))
        self.assertEqual(store.as_cube(), SOME)
        self.assertEqual(store.as_cube((GROWTH,)), SOME.with_rules((GROWTH,)))
        self.assertEqual((store.key(("feb", "b")), store.row(("a",)), store.row(("b",))),
                         (("b",), ((4, 1), (6, 1), None), ((1, 2), None, None)))
        self.assertEqual([store.worth_at(place) for place in (JAN, ("mar", "a"), ("jan", "b"))], [(4, 1), None, (1, 2)])
        self.assertEqual((len(store), list(store), str(store)), (2, [("a",), ("b",)], "store of 2 blocks, 3 cells, 16 characters"))
        bare = BlockStore(FLAT, ("time",))
        self.assertEqual((bare.room, bare.spans, bare.free, bare.cells, len(bare)), ("", {}, (), {}, 0))
        self.assertEqual(str(bare), "store of 0 blocks, 0 cells, 0 characters")
        self.assertEqual(bare.answer(TOP), ("nothing",))

    def test_seats_and_keys(self):
        outline = Outline((TIME, SHOP, Side("unit", ("usd", "eur"))))
        store = BlockStore(outline, ("time", "unit"))
        self.assertEqual([store.seat((month, "b", unit)) for month in TIME.leaves for unit in ("usd", "eur")], list(range(6)))
        self.assertEqual(store.key(("feb", "b", "eur")), ("b",))
        store = BlockStore(outline, ("shop",))
        self.assertEqual((store.key(("feb", "b", "eur")), store.seat(("feb", "b", "eur"))), (("feb", "eur"), 1))

    def test_no_dense_side_and_all_sides(self):
        store = BlockStore(FLAT, (), SOME.cells)
        self.assertEqual((store.room, list(store)), ("p:6p:4p:1/2", sorted(SOME.cells)))
        self.assertEqual((store.key(JAN), store.seat(JAN), store.row(JAN)), (JAN, 0, ((4, 1),)))
        self.assertEqual(store.answer(TOP), ("worth", (21, 2)))
        store = BlockStore(FLAT, ("time", "shop"), SOME.cells)
        self.assertEqual((store.key(JAN), store.seat(("feb", "b"))), ((), 3))
        self.assertEqual((store.spans, list(store)), ({(): (0, len(store.room))}, [()]))
        self.assertEqual(store.row(()), ((4, 1), (1, 2), (6, 1), None, None, None))
        self.assertEqual(store.answer(TOP, keys=((),)), ("worth", (21, 2)))
        self.assertTrue(() in store)
        self.assertFalse(() in BlockStore(FLAT, ("time", "shop")))

    def test_zero_and_nothing(self):
        store = BlockStore(FLAT, ("time",), {JAN: (0, 1)})
        self.assertEqual((store.answer(TOP), store.answer(("jan", "diff")), store.answer(("feb", "both"))),
                         (("worth", (0, 1)), ("worth", (0, 1)), ("nothing",)))

    def test_puts(self):
        store = BlockStore(FLAT, ("time",), SOME.cells)
        self.assertIs(store.put(JAN, (4, 1)), False)
        self.assertIs(store.put(("mar", "b"), None), False)
        self.assertEqual(store, BlockStore(FLAT, ("time",), SOME.cells))
        # The new text of a is too long for its old place; that of b fits into it.
        self.assertIs(store.put(("mar", "a"), (1, 7)), True)
        self.assertEqual((store.room, store.free), ("_______p:1/2,.,.p:4,6,1/7", ((0, 7),)))
        self.assertIs(store.put(("jan", "b"), (5, 1)), True)
        self.assertEqual(store.room, "p:5,.,.___" + "_" * 6 + "p:4,6,1/7")
        self.assertEqual(store.spans, {("a",): (16, 25), ("b",): (0, 7)})
        # The room is cut at its end.
        self.assertIs(store.put(("mar", "a"), None), True)
        self.assertEqual((store.room, store.free), ("p:5,.,.p:4,6,.", ()))
        self.assertIs(store.put(("jan", "b"), None), True)
        self.assertEqual((store.room, store.free, len(store)), ("_______p:4,6,.", ((0, 7),), 1))
        self.assertEqual((store.squeeze(), store.room, store.squeeze()), (7, "p:4,6,.", 0))
        for place in (JAN, ("feb", "a")):
            store.put(place, None)
        self.assertEqual((store.room, store.spans, store.free, store.cells), ("", {}, (), {}))

    def test_a_free_span_of_two_texts(self):
        store = BlockStore(FLAT, (), {(month, "a"): (n, 1) for n, month in enumerate(TIME.leaves)})
        self.assertEqual((store.room, list(store)), ("p:1p:0p:2", [("feb", "a"), JAN, ("mar", "a")]))
        store.put(("feb", "a"), None)
        store.put(JAN, None)
        self.assertEqual(store.free, ((0, 6),))
        store.put(("feb", "b"), (77777, 1))
        self.assertEqual((store.room, store.free), ("______p:2p:77777", ((0, 6),)))
        store.put(JAN, (8888, 1))
        self.assertEqual((store.room, store.free), ("p:8888p:2p:77777", ()))

    def test_errors_of_puts(self):
        store = BlockStore(FLAT, ("time",), SOME.cells)
        for value in odd_values() + [TOP, ("jan", "both")]:
            self.assert_raises(InvalidPlace, store.put, value, value)
            for call in (store.key, store.seat, store.worth_at):
                self.assert_raises(InvalidPlace, call, value)
            if value is not None:
                self.assert_raises(InvalidWorth, store.put, JAN, value)
        for value in ((10 ** 18, 1), (1, 1001), (2, 2)):
            self.assert_raises(InvalidWorth, store.put, JAN, value)
        self.assertEqual(store, BlockStore(FLAT, ("time",), SOME.cells))
        outline = Outline((Side("p", NAMES), Side("q", NAMES[:11])))
        places = sorted(outline.leaf_places())
        store = BlockStore(outline, ("p",), {place: ONE for place in places[:300]})
        self.assertEqual(self.assert_raises(TooMany, store.put, places[300], ONE).limit, 300)
        self.assertIs(store.put(places[0], (2, 1)), True)
        self.assertIs(store.put(places[1], None), True)
        self.assertIs(store.put(places[300], ONE), True)
        self.assert_raises(TooMany, store.put, places[1], ONE)
        self.assertEqual(len(store.cells), 300)

    def test_keys(self):
        store = BlockStore(FLAT, ("time",), {JAN: ONE})
        for value in odd_values() + [("b",), ("both",), ("jan",), "a", ["a"], ("a", "a")]:
            self.assertFalse(value in store)
            self.assertIs(self.assert_raises(UnknownName, store.row, value).asked, value)
        self.assertTrue(("a",) in store)

    def test_orders_of_keys(self):
        outline = Outline((TIME, SHOP, Side("unit", ("usd", "eur"))))
        cells = {place: (6 * index - 35, 1 + index % 3) for index, place in enumerate(outline.leaf_places()) if index % 5}
        cube = Cube(outline, (), cells)
        store = BlockStore(outline, ("time",), cells)
        self.assertEqual(len(store), 4)
        for place in outline.places():
            self.assertEqual(store.answer(place), cube.answer(place))
            for keys in itertools.permutations(store):
                self.assertEqual(store.answer(place, keys=keys), cube.answer(place))

    def test_errors_of_answers(self):
        store = BlockStore(FLAT, ("time",), SOME.cells)
        for value in odd_values():
            self.assert_raises(InvalidPlace, store.answer, value, keys=value)
            if value is not None:
                self.assert_raises(InvalidOperation, store.answer, TOP, keys=value)
        for keys in ((("a",),), (("a",), ("a",)), (("a",), ("b",), ("b",)), [("a",), ("b",)], (("a",), ("c",)), ("a", "b"), (["a"], ("b",))):
            self.assert_raises(InvalidOperation, store.answer, TOP, keys=keys)
        self.assertEqual(BlockStore(FLAT, ()).answer(TOP, keys=()), ("nothing",))
        self.assertEqual(store.answer(TOP, keys=None), ("worth", (21, 2)))

    def test_errors_of_stores(self):
        for value in odd_values():
            if value is not FLAT:
                self.assert_raises(InvalidOutline, BlockStore, value, value, value)
                self.assert_raises(InvalidOutline, store_of_room, value, value, value, value)
            if value != ():
                self.assert_raises(InvalidStore, BlockStore, FLAT, value, value)
                self.assert_raises(InvalidStore, store_of_room, FLAT, value, value, value)
            if value is not None and value != {}:
                self.assert_raises(InvalidCells, BlockStore, FLAT, (), value)
            self.assert_raises(InvalidRule, BlockStore(FLAT, ()).as_cube, value if value != () else None)
        for dense in (("shop", "time"), ("time", "time"), ("zone",), ["time"], "time", ("time", 1), ("jan",)):
            self.assert_raises(InvalidStore, BlockStore, FLAT, dense)
        outline = Outline((Side("p", NAMES), Side("q", NAMES[:21])))
        places = list(outline.leaf_places())
        self.assertEqual(len(BlockStore(outline, (), {place: ONE for place in places[:300]}).cells), 300)
        self.assert_raises(InvalidCells, BlockStore, outline, (), {place: ONE for place in places[:301]})
        self.assert_raises(InvalidRule, BlockStore(FLAT, ()).as_cube, (GROWTH, SOME))

    def test_a_thousand_entries(self):
        sides = (Side("p", NAMES[:25]), Side("q", NAMES[:20]), Side("r", NAMES[:2]))
        store = BlockStore(Outline(sides), ("p", "q", "r"))
        store.put(("n24", "n19", "n1"), ONE)
        self.assertEqual((store.room, store.seat(("n24", "n19", "n1"))), ("r:.*999,1", 999))
        sides = (Side("p", NAMES[:13]), Side("q", NAMES[:11]), Side("r", NAMES[:7]))
        self.assert_raises(InvalidStore, BlockStore, Outline(sides), ("p", "q", "r"))
        self.assertEqual(BlockStore(Outline(sides), ("p", "r")).dense, ("p", "r"))
        long = Outline(tuple(Side(name, NAMES[:7]) for name in "abcde"))
        self.assert_raises(InvalidStore, BlockStore, long, ("a", "b", "c", "d", "e"))

    def test_equality_and_sharing(self):
        store = BlockStore(FLAT, ("time",), SOME.cells)
        for value in odd_values():
            self.assertFalse(store == value)
            self.assertTrue(store != value)
        other = BlockStore(FLAT, ("time",), SOME.cells)
        self.assertEqual(store, other)
        other.put(("mar", "b"), ONE)
        self.assertNotEqual(store, other)
        other.put(("mar", "b"), None)
        self.assertEqual(store, other)
        self.assertNotEqual(store, BlockStore(FLAT, ("shop",), SOME.cells))
        self.assertNotEqual(BlockStore(FLAT, ("time",)), BlockStore(FLAT, ()))
        # Equal cells, but put in another order.
        moved = BlockStore(FLAT, ("time",))
        for place in sorted(SOME.cells, key=lambda place: place[1], reverse=True):
            moved.put(place, SOME.cells[place])
        self.assertEqual(moved.cells, store.cells)
        self.assertNotEqual(moved, store)
        moved.squeeze()
        self.assertEqual(moved, store)
        store.spans.clear()
        store.cells.clear()
        self.assertEqual((len(store.spans), len(store.cells)), (2, 3))
        cells = dict(SOME.cells)
        store = BlockStore(FLAT, (), cells)
        cells.clear()
        self.assertEqual(store.cells, SOME.cells)


class Rooms(unittest.TestCase, Checks):
    ROOM = "p:5,.,.__p:4,6,.__r:1*3"
    SPANS = {("b", "x"): (0, 7), ("a", "x"): (9, 16), ("a", "y"): (18, 23)}
    OUTLINE = Outline((TIME, SHOP, Side("unit", ("x", "y"))))

    def test_taken_over(self):
        store = store_of_room(self.OUTLINE, ("time",), self.ROOM, self.SPANS)
        self.assertEqual((store.room, store.spans, store.free), (self.ROOM, self.SPANS, ((7, 9), (16, 18))))
        self.assertEqual(list(store), [("a", "x"), ("a", "y"), ("b", "x")])
        self.assertEqual(str(store), "store of 3 blocks, 6 cells, 23 characters")
        self.assertIs(store.put(("jan", "b", "y"), ONE), True)
        self.assertEqual(store.room, self.ROOM + "p:1,.,.")
        self.assertEqual(store.squeeze(), 4)
        self.assertEqual((store.room, store.free), ("p:4,6,.r:1*3p:5,.,.p:1,.,.", ()))
        self.assertEqual(store_of_room(self.OUTLINE, ("time",), store.room, store.spans), store)
        self.assertEqual(store_of_room(FLAT, ("shop",), "", {}), BlockStore(FLAT, ("shop",)))
        self.assertEqual(store_of_room(FLAT, (), "___p:1", {JAN: (3, 6)}).free, ((0, 3),))
        spans = dict(self.SPANS)
        store = store_of_room(self.OUTLINE, ("time",), self.ROOM, spans)
        spans.clear()
        self.assertEqual(store.spans, self.SPANS)

    def test_what_can_be_wrong(self):
        room, spans = self.ROOM, self.SPANS

        def put(**changes):
            found = dict(spans)
            for key, span in changes.items():
                if span is None:
                    del found[tuple(key)]
                else:
                    found[tuple(key)] = span
            return found
        wrong = [
            (room + "_", spans), ("_" + room, spans), (room.replace("__", "_x", 1), spans), (room.replace("__", "  "), spans), (room + "p", spans),
            (list(room), spans), (room, list(spans.items())), (None, spans), (room, None), (room[:-1], spans), ("", spans), (room, {}),
            (room, put(ax=None)), (room, put(ay=None)), (room, put(by=(18, 23))), (room, put(ax=[9, 16])), (room, put(ax=(9, 16, 16))),
            (room, put(ax=(9, True))), (room, put(bx=(False, 7))), (room, put(bx=(0, 8))), (room, put(ax=(16, 9))), (room, put(ay=(18, 24))),
            (room, put(ay=(-5, 23))), (room, put(ax=(9, 9))), (room, put(ay=("18", 23))), (room, put(ay=None, yx=(18, 23))),
            (room, {**put(ay=None), "ay": (18, 23)}), (room, {**put(ay=None), ("a",): (18, 23)}), (room, {**put(ay=None), ("both", "y"): (18, 23)}),
            (room, {**put(ay=None), ("a", 1): (18, 23)}), (room, {**put(ay=None), None: (18, 23)}),
            # texts that are not those of blocks
            (room.replace("r:1*3", "p:1*3"), spans), (room.replace("p:5,.,.", "p:.,.,."), spans),
            (room.replace("p:5,.,.", "p:5,5,5"), spans), (room.replace("p:4,6,.", "p:6,4,x"), spans), (room.replace("p:4,6,.", "p:46,.."), spans),
            (room.replace("r:1*3", "p:1,1"), spans), (room.replace("r:1*3", "r:1*4"), spans), (room.replace("r:1*3", "r:.*3"), spans),
            (room.replace("p:4,6,.", "p:4,2/1"), spans)]
        for one, other in wrong:
            self.assert_raises(InvalidStore, store_of_room, self.OUTLINE, ("time",), one, other)
        for value in odd_values():
            if value != "":
                self.assert_raises(InvalidStore, store_of_room, FLAT, ("time",), value, {})
            if value != {}:
                self.assert_raises(InvalidStore, store_of_room, FLAT, ("time",), "", value)
                self.assert_raises(InvalidStore, store_of_room, FLAT, ("time",), "p:4,6,.", value)

    def test_only_the_shortest_coding(self):
        for row in (((4, 1), (6, 1), None), ((1, 1), (1, 1), (1, 1)), ((1, 1), (2, 1), (3, 1))):
            for text in codings(row).values():
                if text == coded(row):
                    self.assertEqual(store_of_room(FLAT, ("time",), text, {("a",): (0, len(text))}).row(("a",)), row)
                else:
                    self.assert_raises(InvalidStore, store_of_room, FLAT, ("time",), text, {("a",): (0, len(text))})

    def test_overlapping_spans(self):
        outline = Outline((SHOP, Side("unit", ("x", "y"))))
        self.assert_raises(InvalidStore, store_of_room, outline, (), "p:11", {("a", "x"): (0, 4), ("a", "y"): (0, 3)})
        self.assert_raises(InvalidStore, store_of_room, outline, (), "p:1", {("a", "x"): (0, 3), ("a", "y"): (0, 3)})
        self.assertEqual(len(store_of_room(outline, (), "p:11p:1", {("a", "x"): (0, 4), ("a", "y"): (4, 7)})), 2)

    def test_three_hundred_cells(self):
        outline = Outline((Side("p", NAMES), Side("q", NAMES[:11])))
        places = list(outline.leaf_places())
        for many in (300, 301):
            room = "p:1" * many
            spans = {place: (3 * index, 3 * index + 3) for index, place in enumerate(places[:many])}
            if many == 300:
                store = store_of_room(outline, (), room, spans)
                self.assert_raises(TooMany, store.put, places[300], ONE)
            else:
                self.assert_raises(InvalidStore, store_of_room, outline, (), room, spans)
        # Blocks of thirty cells: ten are let, and one cell more is not.
        spans = {(name,): (6 * index, 6 * index + 6) for index, name in enumerate(NAMES[:10])}
        self.assertEqual(len(store_of_room(outline, ("p",), "r:1*30" * 10, spans).cells), 300)
        spans[("n10",)] = (60, 69)
        self.assert_raises(InvalidStore, store_of_room, outline, ("p",), "r:1*30" * 10 + "r:.*29,1", {**spans, ("n10",): (60, 68)})


class RandomStores(unittest.TestCase):
    def test_against_a_model(self):
        free = 0
        for seed in range(120):
            chance = Chance(seed)
            outline = chance.outline()
            dense = tuple(name for name in outline.names if chance.random.random() < 0.5)
            cells = chance.cells(outline)
            store, model = BlockStore(outline, dense, cells), Model(outline, dense, cells)
            leaves = list(outline.leaf_places())
            for _ in range(40):
                place = chance.one_of(leaves)
                entry = chance.one_of((None, None, chance.worth(), (chance.random.randint(-10 ** 9, 10 ** 9), 1)))
                self.assertIs(store.put(place, entry), model.put(place, entry))
                if chance.random.random() < 0.05:
                    before = store.room
                    keys = list(store)
                    texts = [before[slice(*store.spans[key])] for key in keys]
                    self.assertEqual(store.squeeze(), len(before) - len("".join(texts)))
                    model.room = list("".join(texts))
                    ends = list(itertools.accumulate((len(text) for text in texts), initial=0))
                    model.spans = dict(zip(keys, zip(ends, ends[1:])))
                    self.assertEqual(store.free, ())
                self.assertEqual((store.room, store.spans, store.free), ("".join(model.room), model.spans, model.free()))
                self.assertEqual(list(store), sorted(model.spans))
                self.assertEqual({key: list(store.row(key)) for key in store}, model.rows)
                free += len(store.free)
            cube = Cube(outline, (), store.cells)
            self.assertEqual(store_of_room(outline, dense, store.room, store.spans), store)
            for place in outline.places():
                keys = chance.random.sample(list(store), len(store))
                self.assertEqual(store.answer(place, keys=tuple(keys)), cube.answer(place), seed)
                self.assertEqual(store.answer(place), cube.answer(place))
            for place in leaves:
                self.assertEqual(store.worth_at(place), cube.cells.get(place))
                self.assertEqual((store.key(place), store.seat(place)), (model.key(place), model.seat(place)))
        self.assertGreater(free, 500)


if __name__ == "__main__":
    unittest.main()
