import random
import unittest

from sumstead.ask import sets
from sumstead.ask.sets import does_ask, is_question, members_of, read_question, write_question
from sumstead.errors import InvalidCube, InvalidOutline, InvalidPlace, InvalidQuestion, ParseError, UnknownName
from sumstead.outline.outlines import Outline, Side
from sumstead.plain.cubes import Cube
from sumstead.plain.rules import Rule

from chance import Chance
from earley import QUESTIONS, TOKEN, Grammar
from examples import FLAT, HERE, LOOP, NOTHING, ONE, RULED, SHOP, SOME, TIME, Checks, number, odd_values, raised, to

JAN = ("jan", "a")
A = to(("shop", "a"))
LEAVES, ALL = ("leaves",), ("all",)
THERE = ("there", HERE)
WRONG = ("over", number(1), number(0))

RIGHT = [
    ALL, LEAVES, ("members", ()), ("members", ("mar", "jan")), ("members", tuple(f"n{n}" for n in range(100))),
    ("children", "all"), ("under", "jan"), ("level", "year", 0), ("level", "year", 6), ("union", ALL, LEAVES),
    ("less", ALL, LEAVES), ("meet", ALL, LEAVES), ("filter", ALL, THERE), ("order", ALL, HERE, "up"),
    ("order", ALL, HERE, "down"), ("first", ALL, 1), ("first", ALL, 100), ("best", ALL, 1, HERE), ("best", ALL, 100, HERE),
]

NOT = [
    ("all", 1), ("leaves", ()), ("members",), ("members", ["jan"]), ("members", "jan"), ("members", ("jan", "jan")),
    ("members", ("Jan",)), ("members", tuple(f"n{n}" for n in range(101))), ("members", (1,)), ("members", (("a",),)),
    ("children",), ("children", 1), ("children", "Jan"), ("under", ["jan"]), ("under", "a", "b"), ("level", "year"),
    ("level", "year", 7), ("level", "year", -1), ("level", "year", True), ("level", "year", "1"), ("level", 1, 1),
    ("union", ALL), ("union", ALL, ALL, ALL), ("union", ALL, HERE), ("less", [], ALL), ("meet", None, ALL),
    ("filter", ALL), ("filter", ALL, HERE), ("filter", THERE, ALL), ("filter", ALL, ("there", THERE)),
    ("order", ALL, HERE), ("order", ALL, HERE, "UP"), ("order", ALL, HERE, True), ("order", ALL, THERE, "up"),
    ("order", HERE, HERE, "up"), ("first", ALL), ("first", ALL, 0), ("first", ALL, 101), ("first", ALL, True),
    ("first", ALL, "1"), ("first", "time", LEAVES, HERE), ("best", ALL, 0, HERE), ("best", ALL, 101, HERE),
    ("best", ALL, HERE, 1), ("best", ALL, 1), ("best", ALL, 1, NOTHING, 1), ["all"], "all", ("ALL",), (ALL,), ([],),
    ("names",), ("question",), ("", ALL), HERE, THERE,
]


def deep(many):
    question = ALL
    for _ in range(many - 1):
        question = ("first", question, 3)
    return question


def wide(many):
    """A question with so many questions in it."""
    level = [ALL] * ((many + 1) // 2)
    while len(level) > 1:
        rest = [level[-1]] if len(level) % 2 else []
        level = [("union", one, other) for one, other in zip(level[::2], level[1::2])] + rest
    return level[0] if many % 2 else ("first", wide(many - 1), 3)


def asked(question, cube=SOME, place=JAN, side="time"):
    return members_of(cube, place, side, question)


class Questions(unittest.TestCase, Checks):
    def test_constants(self):
        self.assertEqual((sets.MAX_QUESTIONS, sets.QUESTION_DEPTH, sets.MAX_ASKED), (20, 6, 100))

    def test_right_and_wrong_ones(self):
        for value in RIGHT:
            self.assertIs(is_question(value), True, value)
        for value in NOT + odd_values():
            self.assertIs(is_question(value), False, value)
            self.assert_raises(InvalidQuestion, write_question, value)
            self.assert_raises(InvalidQuestion, members_of, SOME, JAN, "time", value)
            self.assertIs(does_ask(FLAT, "time", value), False)

    def test_bounds(self):
        self.assertIs(is_question(deep(6)), True)
        self.assertIs(is_question(deep(7)), False)
        self.assertIs(is_question(deep(4000)), False)
        self.assertIs(is_question(wide(19)), True)
        self.assertIs(is_question(wide(20)), True)
        self.assertIs(is_question(wide(21)), False)

    def test_the_depth_is_counted_in_questions_alone(self):
        formula = HERE
        for _ in range(7):
            formula = ("plus", formula, HERE)
        question = ("order", deep(5), formula, "up")
        self.assertIs(is_question(question), True)
        self.assertIs(is_question(("order", deep(5), ("plus", formula, HERE), "up")), False)
        self.assertIs(is_question(("filter", ALL, ("there", formula[1]))), True)
        self.assertIs(is_question(("filter", ALL, ("there", formula))), False)

    def test_does_ask(self):
        for question in ((("members", ("jan", "all"))), ("children", "all"), ("under", "jan"), ("level", "year", 3),
                         ("filter", ALL, ("there", A)), ("order", ALL, A, "up"), ("best", LEAVES, 3, to(("time", "all")))):
            self.assertIs(does_ask(FLAT, "time", question), True)
        for question in (("members", ("jan", "a")), ("children", "a"), ("under", "year"), ("level", "sums", 0),
                         ("level", "all", 0), ("filter", ALL, ("there", to(("zone", "a")))),
                         ("order", ALL, to(("time", "a")), "up"), ("best", LEAVES, 3, to(("shop", "jan"))),
                         ("first", ("union", ALL, ("children", "a")), 3)):
            self.assertIs(is_question(question), True)
            self.assertIs(does_ask(FLAT, "time", question), False)
            self.assert_raises(InvalidQuestion, members_of, SOME, JAN, "time", question)
        self.assertIs(does_ask(FLAT, "shop", ("members", ("a", "diff"))), True)

    def test_errors(self):
        for value in odd_values():
            if value is not FLAT:
                self.assert_raises(InvalidOutline, does_ask, value, value, value)
            self.assertIs(self.assert_raises(UnknownName, does_ask, FLAT, value, value).asked, value)
            if value is not SOME:
                self.assert_raises(InvalidCube, members_of, value, value, value, value)
            self.assert_raises(InvalidPlace, members_of, SOME, value, value, value)
            self.assertIs(self.assert_raises(UnknownName, members_of, SOME, JAN, value, value).asked, value)
        self.assert_raises(UnknownName, members_of, SOME, JAN, "jan", ALL)


class Members(unittest.TestCase):
    def check(self, told):
        for question, members in told.items():
            self.assertEqual(asked(question), ("members", members), question)

    def test_example(self):
        told = [members_of(SOME, JAN, "time", ("order", ("leaves",), HERE, way))[1] for way in ("up", "down")]
        self.assertEqual(told, [('jan', 'feb', 'mar'), ('feb', 'jan', 'mar')])

    def test_plain_ones(self):
        self.check({ALL: ("jan", "feb", "mar", "all"), LEAVES: ("jan", "feb", "mar"), ("members", ()): (),
                    ("members", ("mar", "all", "jan")): ("mar", "all", "jan"), ("children", "all"): ("jan", "feb", "mar"),
                    ("children", "jan"): (), ("under", "all"): ("jan", "feb", "mar"), ("under", "feb"): ("feb",),
                    ("level", "year", 0): ("all",), ("level", "year", 1): ("jan", "feb", "mar"), ("level", "year", 2): (),
                    ("level", "year", 6): ()})

    def test_levels_in_the_order_of_the_tree(self):
        rows = (("top", (("g", ONE), ("a", ONE), ("k", (2, 1)))), ("k", (("d", ONE), ("b", ONE))), ("g", (("c", ONE),)))
        outline = Outline((Side("s", ("a", "b", "c", "d"), (("h", rows),)),))
        cube = Cube(outline)
        told = [members_of(cube, ("a",), "s", ("level", "h", steps))[1] for steps in range(4)]
        self.assertEqual(told, [("top",), ("g", "a", "k"), ("c", "d", "b"), ()])

    def test_joining(self):
        one, other = ("members", ("mar", "jan")), ("members", ("all", "jan", "feb"))
        self.check({("union", one, other): ("mar", "jan", "all", "feb"), ("less", one, other): ("mar",),
                    ("meet", one, other): ("jan",), ("union", other, one): ("all", "jan", "feb", "mar"),
                    ("meet", other, ("members", ("feb", "all"))): ("all", "feb"), ("less", one, one): ()})

    def test_filters(self):
        self.check({("filter", ALL, THERE): ("jan", "feb", "all"), ("filter", LEAVES, ("below", HERE, number(5))): ("jan",),
                    ("filter", ("members", ("all", "mar", "jan")), ("not", ("same", HERE, number(4)))): ("all", "mar")})

    def test_orders_and_bests(self):
        cube = Cube(FLAT, (), {("jan", "a"): ONE, ("feb", "a"): (-2, 3), ("mar", "b"): ONE})
        shop = ("order", ("members", ("diff", "both", "b", "a")), HERE, "up")
        self.assertEqual(asked(shop, cube, ("jan", "a"), "shop"), ("members", ("a", "both", "diff", "b")))
        self.assertEqual(asked(shop[:3] + ("down",), cube, ("jan", "a"), "shop"), ("members", ("a", "both", "diff", "b")))
        time = ("order", ("members", ("mar", "all", "feb", "jan")), HERE, "up")
        self.assertEqual(asked(time, cube), ("members", ("feb", "all", "jan", "mar")))
        self.assertEqual(asked(time[:3] + ("down",), cube), ("members", ("jan", "all", "feb", "mar")))
        self.assertEqual(asked(("best", ALL, 100, HERE), cube), ("members", ("jan", "all", "feb")))
        self.assertEqual(asked(("best", ALL, 2, HERE), cube), ("members", ("jan", "all")))
        self.assertEqual(asked(("first", ("order", ALL, HERE, "down"), 100), cube), ("members", ("jan", "all", "feb", "mar")))
        self.assertEqual(asked(("first", ALL, 1), cube), ("members", ("jan",)))
        self.assertEqual(asked(("order", ("members", ("mar", "jan", "feb")), NOTHING, "down"), cube),
                         ("members", ("jan", "feb", "mar")))
        self.assertEqual(asked(("order", ("members", ("mar", "jan", "feb")), number(1, 3), "down"), cube),
                         ("members", ("jan", "feb", "mar")))

    def test_the_member_at_the_side_has_no_effect(self):
        for question in (("order", ALL, HERE, "up"), ("filter", ALL, THERE), ("best", ALL, 2, ("at", (("time", ("step", 1)),)))):
            told = {members_of(SOME, (member, "a"), "time", question) for member in TIME}
            self.assertEqual(len(told), 1)
        self.assertNotEqual(asked(("filter", ALL, THERE)), asked(("filter", ALL, THERE), place=("jan", "b")))

    def test_the_asked_place_is_not_open(self):
        cube = SOME.with_rules((Rule((None, ("b",)), A),))
        self.assertEqual(asked(("filter", LEAVES, ("same", HERE, number(4))), cube, ("jan", "b")), ("members", ("jan",)))

    def test_the_place_that_refuses(self):
        self.assertEqual(asked(("order", ("members", ("feb",)), WRONG, "up")), ("refused", ("zero", ("feb", "a"))))
        self.assertEqual(asked(("order", ("members", ("feb",)), ("sum", "time", ("leaves",), WRONG), "up")),
                         ("refused", ("zero", ("feb", "a"))))
        self.assertEqual(asked(("filter", LEAVES, THERE), LOOP, ("jan", "both")),
                         ("refused", ("ring", (("jan", "b"), ("jan", "both")))))

    def test_the_first_refusal_is_told_and_nothing_behind_it_is_read(self):
        at_feb = ("over", number(1), ("plus", number(0), to(("shop", "b"), ("time", "jan"))))
        first = ("filter", ("members", ("mar", "feb")), ("there", WRONG))
        second = ("filter", ("members", ("jan",)), ("there", WRONG))
        self.assertEqual(asked(("union", first, second)), ("refused", ("zero", ("mar", "a"))))
        self.assertEqual(asked(("less", second, first)), ("refused", ("zero", ("jan", "a"))))
        self.assertEqual(asked(("meet", ALL, second)), ("refused", ("zero", ("jan", "a"))))
        self.assertEqual(asked(("order", first, number(1), "up")), ("refused", ("zero", ("mar", "a"))))
        self.assertEqual(asked(("best", ALL, 1, ("if", ("same", HERE, number(6)), WRONG, HERE))),
                         ("refused", ("zero", ("feb", "a"))))
        self.assertEqual(asked(("first", second, 1)), ("refused", ("zero", ("jan", "a"))))
        self.assertEqual(asked(("filter", ("members", ()), ("there", WRONG))), ("members", ()))
        self.assertEqual(asked(("order", LEAVES, at_feb, "up"))[0], "members")

    def test_with_rules(self):
        self.assertEqual(asked(("best", ALL, 3, HERE), RULED, ("jan", "diff")), ("members", ("feb",)))


TEXTS = {
    "all": ALL, "leaves": LEAVES, "members()": ("members", ()), "members(jan, feb)": ("members", ("jan", "feb")),
    "children(all)": ("children", "all"), "under(jan)": ("under", "jan"), "level(year, 0)": ("level", "year", 0),
    "union(all, less(leaves, meet(all, all)))": ("union", ALL, ("less", LEAVES, ("meet", ALL, ALL))),
    "filter(all, [] + 1 < 2 * [shop to a])":
        ("filter", ALL, ("below", ("plus", HERE, number(1)), ("times", number(2), A))),
    "filter(all, not(there([])))": ("filter", ALL, ("not", THERE)), "order(leaves, [], up)": ("order", LEAVES, HERE, "up"),
    "order(all, sum(time, leaves, []), down)": ("order", ALL, ("sum", "time", LEAVES, HERE), "down"),
    "first(all, 100)": ("first", ALL, 100), "best(first(all, 3), 1, first(time, window 2, []))":
        ("best", ("first", ALL, 3), 1, ("first", "time", ("window", 2), HERE)),
    "members(all, leaves, first)": ("members", ("all", "leaves", "first")),
}

FAULTS = {
    "": 0, "a": 0, "all(": 3, "all all": 4, "members": 7, "members(": 8, "members(,)": 8, "members(a": 9, "members(a,)": 10,
    "members(a b)": 10, "members(longer9ame)": 8, "children()": 9, "children(a, b)": 10, "under(1)": 6, "level(a)": 7,
    "level(a, b)": 9, "level(a, 1/2)": 9, "level(a, 01)": 10, "union(all)": 9, "union(all, 1)": 11, "filter(all, 1)": 13,
    "filter(all, (1 < 2))": 15, "order(all, 1)": 12, "order(all, 1, UP)": 14, "order(all, 1, left)": 14,
    "first(all, [])": 11, "best(all, [], 1)": 10, "best(all, 1)": 11, "[]": 0, "all + all": 4, "(all)": 0, "All": 0,
    "first(time, leaves, [])": 6, "filter(all, there([])": 21, "members(1)": 8,
}


class QuestionTexts(unittest.TestCase, Checks):
    def test_written_and_read(self):
        for text, question in TEXTS.items():
            self.assertEqual(write_question(question), text)
            self.assertEqual(read_question(text), question)
        for question in RIGHT:
            self.assertEqual(read_question(write_question(question)), question)

    def test_loose_texts(self):
        self.assertEqual(read_question(" union ( all,leaves )"), ("union", ALL, LEAVES))
        self.assertEqual(read_question("members( )"), ("members", ()))
        self.assertEqual(read_question("filter(all,(([]))<(1))"), ("filter", ALL, ("below", HERE, number(1))))

    def test_faults(self):
        grammar = Grammar(QUESTIONS, "Q")
        for text, spot in FAULTS.items():
            self.assertEqual(grammar.fault(text), spot, text)
            self.assertEqual(self.assert_raises(ParseError, read_question, text).spot, spot, text)

    def test_brackets_and_lengths(self):
        inner = "(" * 62 + "1" + ")" * 62
        self.assertEqual(read_question(f"order(all, {inner}, up)")[2], number(1))
        text = "filter(all, not(there(" + "(" * 61 + "1"
        self.assertEqual(read_question(text + ")" * 64), ("filter", ALL, ("not", ("there", number(1)))))
        text = "filter(all, not(there(" + "(" * 62 + "1"
        self.assertEqual(self.assert_raises(ParseError, read_question, text).spot, len(text) - 2)
        self.assertEqual(self.assert_raises(ParseError, read_question, "first(" * 70).spot, 64 * 6 + 5)
        self.assertEqual(read_question("all" + " " * 49997), ALL)
        self.assertIsNone(self.assert_raises(ParseError, read_question, "all" + " " * 49998).spot)
        for value in odd_values():
            if type(value) is not str or len(value) > 50000:
                self.assertIsNone(self.assert_raises(ParseError, read_question, value).spot)

    def test_no_questions(self):
        for text in ("members(a, a)", "level(year, 7)", "level(year, -1)", "first(all, 0)", "first(all, 101)",
                     "best(all, 101, 1)", "filter(all, [time step 0] < 1)", "order(all, [time to a, time to b], up)",
                     "first(" * 6 + "all" + ", 1)" * 6, write_question(wide(20)).replace("all", "union(all, all)", 1),
                     "members(" + ", ".join(f"n{n}" for n in range(101)) + ")", "order(all, 1" + " + 1" * 8 + ", up)",
                     "first(" * 60 + "all" + ", 1)" * 60):
            self.assert_raises(InvalidQuestion, read_question, text)
        self.assertEqual(self.assert_raises(ParseError, read_question, "first(all, 0))").spot, 13)
        self.assertEqual(read_question("first(" * 5 + "all" + ", 1)" * 5), ("first", read_question(
            "first(" * 4 + "all" + ", 1)" * 4), 1))

    def test_changed_texts(self):
        grammar = Grammar(QUESTIONS, "Q")
        chance = random.Random(5)
        others = ["a", "all", "longer9ame", "up", "1", "1/2", "01", "(", ")", ",", "[", "]", "+", "<", "members", "first",
                  "there", "nothing", "sum"]
        texts = list(TEXTS)
        for seed in range(20):
            made = Chance(seed)
            outline = made.outline()
            texts.append(write_question(made.question(outline, made.one_of(outline.sides))))
        for text in texts:
            tokens = TOKEN.findall(text)
            rows = [tokens[:at] for at in range(len(tokens) + 1)]
            for at in range(len(tokens)):
                rows.extend([tokens[:at] + tokens[at + 1:], tokens[:at + 1] + tokens[at:],
                             tokens[:at] + [chance.choice(others)] + tokens[at:],
                             tokens[:at] + [chance.choice(others)] + tokens[at + 1:]])
            for row in rows:
                other = " ".join(row)
                spot = grammar.fault(other)
                error = raised(read_question, other)
                if spot is None:
                    self.assertIn(type(error), (type(None), InvalidQuestion), other)
                else:
                    self.assertIs(type(error), ParseError, other)
                    self.assertEqual(error.spot, spot, other)


if __name__ == "__main__":
    unittest.main()
