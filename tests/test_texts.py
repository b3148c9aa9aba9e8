import random
import unittest

from sumstead.errors import InvalidCells, InvalidOutline, InvalidRule, ParseError
from sumstead.outline.outlines import Outline, Side
from sumstead.plain.formulas import is_formula
from sumstead.plain.rules import Rule
from sumstead.text.outlines import read_cells, read_outline, write_cells, write_outline
from sumstead.text.rules import read_formula, read_rule, write_formula, write_rule

from chance import Chance
from earley import CELLS, FORMULAS, OUTLINES, RULES, TOKEN, Grammar
from examples import FLAT, GROWTH, HERE, NOTHING, ONE, SHOP, SOME, TIME, Checks, nines, number, odd_values, raised, to

A = to(("shop", "a"))
WORD_SIDE = Side("side", ("tree", "leaves"), (("tree", (("side", (("tree", (1, 2)), ("leaves", ONE))),)),))

FORMULA_TEXTS = {
    "3": number(3), "-1/2": number(-1, 2), "nothing": NOTHING, "[]": HERE, "[shop to a]": A,
    "[shop to a, time step -1]": GROWTH.formula[2], "[time parent year]": ("at", (("time", ("parent", "year")),)),
    "1 + 2 + 3": ("plus", ("plus", number(1), number(2)), number(3)),
    "1 + (2 + 3)": ("plus", number(1), ("plus", number(2), number(3))),
    "1 - (2 - 3)": ("minus", number(1), ("minus", number(2), number(3))),
    "1 - 2 + 3": ("plus", ("minus", number(1), number(2)), number(3)),
    "1 * 2 / 3 * 4": ("times", ("over", ("times", number(1), number(2)), number(3)), number(4)),
    "1 / (2 * 3)": ("over", number(1), ("times", number(2), number(3))),
    "1 * (2 / 3)": ("times", number(1), ("over", number(2), number(3))),
    "1/2 / 3": ("over", number(1, 2), number(3)),
    "1 + 2 * 3": ("plus", number(1), ("times", number(2), number(3))),
    "(1 + 2) * 3": ("times", ("plus", number(1), number(2)), number(3)),
    "1 * (2 - -3)": ("times", number(1), ("minus", number(2), number(-3))),
    "if([] < 1, 2, nothing)": ("if", ("below", HERE, number(1)), number(2), NOTHING),
    "if([] + 1 = 2 * 3, 2, 3) + 1":
        ("plus", ("if", ("same", ("plus", HERE, number(1)), ("times", number(2), number(3))), number(2), number(3)),
         number(1)),
    "if([] < 1 + 2, 1 - 2, nothing / nothing)":
        ("if", ("below", HERE, ("plus", number(1), number(2))), ("minus", number(1), number(2)),
         ("over", NOTHING, NOTHING)),
    "if(both(there([]), not(1 < 2)), 1, 2)":
        ("if", ("both", ("there", HERE), ("not", ("below", number(1), number(2)))), number(1), number(2)),
    "if(either(there(1 + 2), there(3)), 1, 2)":
        ("if", ("either", ("there", ("plus", number(1), number(2))), ("there", number(3))), number(1), number(2)),
    "sum(time, of jan feb, [])": ("sum", "time", ("members", ("jan", "feb")), HERE),
    "first(time, children year, [] + 1)": ("first", "time", ("children", "year"), ("plus", HERE, number(1))),
    "last(time, leaves, [])": ("last", "time", ("leaves",), HERE),
    "sum(time, window 3, [])": ("sum", "time", ("window", 3), HERE),
    "sum(time, sofar year, sum(shop, leaves, []))":
        ("sum", "time", ("sofar", "year"), ("sum", "shop", ("leaves",), HERE)),
    "[if to sum, to to of]": ("at", (("if", ("to", "sum")), ("to", ("to", "of")))),
    "sum(of, of of leaves if, [step step -2])":
        ("sum", "of", ("members", ("of", "leaves", "if")), ("at", (("step", ("step", -2)),))),
}

LOOSE = {
    " 3 ": number(3), "((3))": number(3), "4/6": number(2, 3), "3/1": number(3), "0/5": number(0),
    "1+2": ("plus", number(1), number(2)), "1- 2": ("minus", number(1), number(2)),
    "1 - -2": ("minus", number(1), number(-2)), "1--2": ("minus", number(1), number(-2)),
    "[time step -1,shop to a]": GROWTH.formula[2], "[ ]": HERE, "[]+[]": ("plus", HERE, HERE),
    "1/2/3": ("over", number(1, 2), number(3)), "1 /2": ("over", number(1), number(2)),
    "1/ 2": ("over", number(1), number(2)), "[]/2": ("over", HERE, number(2)),
    "(1*2)+(3)": ("plus", ("times", number(1), number(2)), number(3)),
    "if ( ( [] ) <1 , 2,3 )": ("if", ("below", HERE, number(1)), number(2), number(3)),
    "sum ( time,of jan   feb,([]))": ("sum", "time", ("members", ("jan", "feb")), HERE),
    "sum(time,window 4/1,[])": None,
}

FAULTS = {
    "": 0, "   ": 3, "+": 0, "1 +": 3, "1 + ": 4, "1 2": 2, "1 -2": 2, "1-2": 1, "(1": 2, "1)": 1, "()": 1, "[": 1,
    "[shop": 5, "[shop,": 5, "[shop to": 8, "[shop to]": 8, "[shop to a": 10, "[shop to a,]": 11, "[shop step 1/2]": 11,
    "[shop step a]": 11, "[,]": 1, "[shop step - 1]": 11, "01": 1, "1/0": 2, "-0": 1, "1/02": 2, "1 + 1/0": 6,
    "9" * 61: 60, "1/" + "1" * 61: 62, "[shop step 007]": 12, "[shop to longer9ame]": 9, "[longer9ame to a]": 1,
    "sum(longer9ame, leaves, 1)": 4, "sum(time, of longer9ame, 1)": 13, "sum(time, of a longer9ame, 1)": 15,
    "sum(time, of, 1)": 12, "sum(time, leaves 1)": 17, "sum(time, window a, 1)": 17, "sum(time, window 1/2, 1)": 17,
    "sum(time, sum, 1)": 10, "sum time": 4, "there(1)": 0, "not(1)": 0, "if(1, 2, 3)": 4, "if(1 < 2 < 3, 1, 2)": 9,
    "if((1 < 2), 1, 2)": 6, "if(there 1, 1, 2)": 9, "if(there(1) < 2, 1, 2)": 12, "if(1 < 2, 1)": 11, "nothings": 0,
    "Nothing": 0, "1\n": 1, "\t1": 0, "1 = 2": 2, "_": 0, "1 % 2": 2, "[shop to a to b]": 11, "[shop to 1]": 9,
    "if(both(there(1)), 1, 2)": 16, "if(not(1), 1, 2)": 8, "a": 0, "sum": 3, "--1": 0, "1 * / 2": 4, "1.5": 1,
}


class FormulaTexts(unittest.TestCase, Checks):
    def test_written_and_read(self):
        for text, formula in FORMULA_TEXTS.items():
            self.assertEqual(write_formula(formula), text)
            self.assertEqual(read_formula(text), formula)

    def test_loose_texts(self):
        for text, formula in LOOSE.items():
            if formula is None:
                self.assert_raises(ParseError, read_formula, text)
            else:
                self.assertEqual(read_formula(text), formula, text)
                self.assertEqual(read_formula(write_formula(formula)), formula)

    def test_faults(self):
        grammar = Grammar(FORMULAS, "F")
        for text, spot in FAULTS.items():
            self.assertEqual(grammar.fault(text), spot, text)
            self.assertEqual(self.assert_raises(ParseError, read_formula, text).spot, spot, text)

    def test_brackets(self):
        self.assertEqual(read_formula("(" * 64 + "1" + ")" * 64), number(1))
        self.assertEqual(read_formula("(" * 63 + "[]" + ")" * 63), HERE)
        self.assertEqual(self.assert_raises(ParseError, read_formula, "(" * 65 + "1" + ")" * 65).spot, 64)
        self.assertEqual(self.assert_raises(ParseError, read_formula, "(" * 64 + "[]" + ")" * 64).spot, 64)
        self.assertEqual(self.assert_raises(ParseError, read_formula, "1 + " + "(" * 65).spot, 68)
        self.assertEqual(self.assert_raises(ParseError, read_formula, "(" * 50000).spot, 64)
        self.assertEqual(read_formula("(" * 40 + "1" + ")" * 40 + "+" + "(" * 40 + "1" + ")" * 40),
                         ("plus", number(1), number(1)))

    def test_lengths(self):
        self.assertEqual(read_formula("1" + " " * 49999), number(1))
        self.assertIsNone(self.assert_raises(ParseError, read_formula, "1" + " " * 50000).spot)
        self.assertEqual(read_formula("9" * 60), number(nines(60)))

    def test_no_texts(self):
        for value in odd_values() + [b"1"]:
            if type(value) is not str or len(value) > 50000:
                self.assertIsNone(self.assert_raises(ParseError, read_formula, value).spot)
                self.assertIsNone(self.assert_raises(ParseError, read_rule, FLAT, value).spot)
                self.assertIsNone(self.assert_raises(ParseError, read_outline, value).spot)
                self.assertIsNone(self.assert_raises(ParseError, read_cells, FLAT, value).spot)

    def test_no_formulas(self):
        wrong = ["[time step 0]", "[time step 31]", "[time step 1, time step 2]", "[time to a, time to a]",
                 "sum(time, window 0, 1)", "sum(time, window 31, 1)", "sum(time, of a a, 1)",
                 "sum(a, leaves, sum(a, leaves, sum(a, leaves, 1)))", "+".join(["1"] * 31), "1" + " + 1" * 8,
                 "1" + "+1" * 24999, "sum(time, of " + " ".join(f"m{n}" for n in range(31)) + ", 1)"]
        for text in wrong:
            self.assert_raises(InvalidRule, read_formula, text)
        # A text that is wrong is told ahead of a formula that is none.
        self.assertEqual(self.assert_raises(ParseError, read_formula, "[time step 0] )").spot, 14)
        self.assertEqual(read_formula("1" + " + 1" * 7)[0], "plus")

    def test_wrong_formulas(self):
        for value in odd_values() + [("there", HERE), [NOTHING], ("plus", HERE)]:
            self.assert_raises(InvalidRule, write_formula, value)


class RuleTexts(unittest.TestCase, Checks):
    def test_example(self):
        told = [write_rule(FLAT, GROWTH), write_cells(FLAT, {("jan", "b"): (1, 2), ("feb", "a"): (6, 1)})]
        self.assertEqual(told, ['2 (shop: diff) = [shop to a] / [shop to a, time step -1]', 'feb a: 6\njan b: 1/2'])

    def test_written_and_read(self):
        for area, text in (((None, None), "0 () = 1"), ((("feb", "jan"), None), "0 (time: feb jan) = 1"),
                           ((("all",), ("a", "diff")), "0 (time: all, shop: a diff) = 1")):
            rule = Rule(area, number(1))
            self.assertEqual(write_rule(FLAT, rule), text)
            self.assertEqual(read_rule(FLAT, text), rule)

    def test_loose_texts(self):
        rule = Rule((("feb", "jan"), ("a",)), HERE, 7)
        self.assertEqual(read_rule(FLAT, " 7(shop:a,time:jan feb)=([ ])"), rule)
        self.assertEqual(read_rule(FLAT, "7 (time : jan feb , shop : a) = []"), rule)

    def test_faults(self):
        grammar = Grammar(RULES, "R")
        told = {"": 0, "1": 1, "1 (": 3, "1 (shop": 7, "1 (shop:": 8, "1 (shop:)": 8, "1 (shop: a": 10, "1 (shop: a,)": 11,
                "1 () =": 6, "1 () = ": 7, "1 () 1": 5, "1/2 () = 1": 0, "01 () = 1": 1, "-0 () = 1": 1, "a () = 1": 0,
                "1 (longer9ame: a) = 1": 3, "1 (shop: longer9ame) = 1": 9, "1 (shop: a b, ) = 1": 14, "1 () = 1 1": 9,
                "1 (,) = 1": 3, "1 () = []]": 9, "1 [] = 1": 2, "1 () = 1 = 2": 9, "1 (shop a) = 1": 8, "1 ()\n= 1": 4}
        for text, spot in told.items():
            self.assertEqual(grammar.fault(text), spot, text)
            self.assertEqual(self.assert_raises(ParseError, read_rule, FLAT, text).spot, spot, text)

    def test_no_rules(self):
        for text in ("100 () = 1", "-1 () = 1", "1 (zone: a) = 1", "1 (shop: a, shop: b) = 1", "1 (shop: a a) = 1",
                     "1 (shop: jan) = 1", "1 () = [zone to a]", "1 () = [time to a]", "1 () = [time step 0]",
                     "1 (time: shop) = 1", "1 () = sum(time, children less, 1)"):
            self.assert_raises(InvalidRule, read_rule, FLAT, text)
        names = [f"m{n}" for n in range(91)]
        self.assert_raises(InvalidRule, read_rule, FLAT, f"1 (shop: {' '.join(names)}) = 1")
        self.assertEqual(self.assert_raises(ParseError, read_rule, FLAT, "1 (zone: a) = 1 +").spot, 17)

    def test_errors(self):
        for value in odd_values():
            if value is not FLAT:
                self.assert_raises(InvalidOutline, write_rule, value, value)
                self.assert_raises(InvalidOutline, read_rule, value, value)
            if value is not GROWTH:
                self.assert_raises(InvalidRule, write_rule, FLAT, value)
        for rule in (Rule((None,), HERE), Rule((("a",), None), HERE), Rule((None, None), to(("zone", "a")))):
            self.assert_raises(InvalidRule, write_rule, FLAT, rule)


TEXT = """side time
leaves jan feb mar
tree year
all = jan, feb, mar
side shop
leaves a b
tree sums
both = a, b
tree less
diff = a, b * -1"""


class OutlineTexts(unittest.TestCase, Checks):
    def test_written_and_read(self):
        self.assertEqual(write_outline(FLAT), TEXT)
        self.assertEqual(read_outline(TEXT), FLAT)
        outline = Outline((WORD_SIDE, TIME, Side("leaves", ("leaves",))))
        text = write_outline(outline)
        self.assertEqual(text.split("\n")[:4], ["side side", "leaves tree leaves", "tree tree", "side = tree * 1/2, leaves"])
        self.assertEqual(read_outline(text), outline)
        self.assertEqual(write_outline(Outline((Side("s", ("a",)),))), "side s\nleaves a")

    def test_loose_texts(self):
        loose = TEXT.replace("b * -1", " b*-4/4 ").replace("= jan", "=jan * 1").replace("\n", " \n  ")
        self.assertEqual(read_outline(loose), FLAT)
        side = read_outline("side s\nleaves tree\ntree side\nside = tree").sides[0]
        self.assertEqual(side.hierarchies, (("side", (("side", (("tree", ONE),)),)),))
        side = read_outline("side s\nleaves a\ntree h\ntop = tree\ntree = side\nside = a").sides[0]
        self.assertEqual(side.members, ("a", "top", "tree", "side"))

    def test_faults(self):
        grammar = Grammar(OUTLINES, "O")
        told = {"": 0, "side": 4, "side s": 6, "side s\n": 7, "side s\nleaves": 13, "side s\nleaves\n": 13,
                "side s\nleaves a\n": 16, "side s\nleaves a\n\n": 16, "side s\nleaves a,b": 15, "leaves": 0, "\nside s": 0,
                "side s\nleaves a\ntree h": 22, "side s\nleaves a\ntree h\nside t": 28, "side s\nleaves a\ntop = a": 16,
                "side s\nleaves a\ntree h\ntree k": 28, "side s\nleaves a\ntree h\ntop =": 28,
                "side s\nleaves a\ntree h\ntop = a,": 31, "side s\nleaves a\ntree h\ntop = a *": 32,
                "side s\nleaves a\ntree h\ntop = a * b": 33, "side s\nleaves a\ntree h\ntop = a * 01": 34,
                "side s\nleaves a\ntree h\ntop = a b": 31, "side s leaves a": 7, "side longer9ame\nleaves a": 5,
                "side s\nleaves a\ntree h\nlonger9ame = a": 23, "side s\nleaves a\ntree h\ntop = longer9ame": 29,
                "side s\nleaves a\ntree h\ntop = a\ntree": 35, "side s\nleaves a\ntree h\ntop = a\nside": 35,
                "side s\nleaves a\ntree h\ntop = a\nside 1": 36, "side s\nleaves a\ntree h\ntop = a\nside =": 37,
                "side s\nleaves a\ntree h\ntop = a\nx y": 33, "side s\nleaves a\ntree h\ntop = a\n": 31}
        for text, spot in told.items():
            self.assertEqual(grammar.fault(text), spot, text)
            self.assertEqual(self.assert_raises(ParseError, read_outline, text).spot, spot, text)

    def test_no_outlines(self):
        for text in ("side s\nleaves a a", "side s\nleaves a\nside s\nleaves a", TEXT.replace("b * -1", "b * 0"),
                     TEXT.replace("b * -1", "b * 100"), TEXT.replace("b * -1", "a"), TEXT.replace("b * -1", "jan"),
                     TEXT.replace("tree less", "tree sums"), TEXT.replace("diff", "both"), "side s\nleaves " + " ".join(
                         f"l{n}" for n in range(31)), "\n".join(f"side s{n}\nleaves a" for n in range(6)),
                     TEXT.replace("b * -1", "b * 1/11")):
            self.assert_raises(InvalidOutline, read_outline, text)
        self.assertEqual(self.assert_raises(ParseError, read_outline, "side s\nleaves a a\n").spot, 18)

    def test_wrong_outlines(self):
        for value in odd_values():
            if value is not FLAT:
                self.assert_raises(InvalidOutline, write_outline, value)
                self.assert_raises(InvalidOutline, write_cells, value, value)
                self.assert_raises(InvalidOutline, read_cells, value, value)


class CellTexts(unittest.TestCase, Checks):
    def test_written_and_read(self):
        for cells in ({}, SOME.cells, {("mar", "b"): (-7, 1000)}, {("jan", "a"): (0, 1), ("mar", "a"): (nines(18), 1)}):
            self.assertEqual(read_cells(FLAT, write_cells(FLAT, cells)), cells)
        self.assertEqual(write_cells(FLAT, {}), "")
        self.assertEqual(list(read_cells(FLAT, "mar b: 1\njan a: 2")), [("jan", "a"), ("mar", "b")])

    def test_loose_texts(self):
        self.assertEqual(read_cells(FLAT, "  mar b :4/2 \n jan a:1"), {("jan", "a"): ONE, ("mar", "b"): (2, 1)})
        self.assertEqual(read_cells(FLAT, "   "), {})

    def test_faults(self):
        grammar = Grammar(CELLS, "C")
        told = {"\n": 0, "jan": 3, "jan a": 5, "jan a:": 6, "jan a: ": 7, "jan a: x": 7, "jan a: 1\n": 9, "jan a: 1 2": 9,
                "jan a 1": 6, ": 1": 0, "1": 0, "jan a: 1\n\njan b: 1": 9, "jan a: 01": 8, "jan a: 1/0": 9,
                "longer9ame a: 1": 0, "jan longer9ame: 1": 4, "jan a: nothing": 7, "jan a: " + "1" * 61: 67,
                "jan a: 1, jan b: 2": 8, "jan, a: 1": 3}
        for text, spot in told.items():
            self.assertEqual(grammar.fault(text), spot, text)
            self.assertEqual(self.assert_raises(ParseError, read_cells, FLAT, text).spot, spot, text)

    def test_no_cells(self):
        for text in ("jan a: 1\njan a: 1", "jan a: 1\njan a: 2", "all a: 1", "a jan: 1", "jan a: 1/1001",
                     "jan a: 1" + "0" * 18, "zzz a: 1", "jan: 1", "jan a b: 1"):
            self.assert_raises(InvalidCells, read_cells, FLAT, text)
        names = [f"l{n}" for n in range(30)]
        wide = Outline((Side("s", tuple(names)), Side("t", tuple(names))))
        lines = [f"{one} {other}: 1" for one in names for other in names]
        self.assertEqual(len(read_cells(wide, "\n".join(lines[:300]))), 300)
        self.assert_raises(InvalidCells, read_cells, wide, "\n".join(lines[:301]))

    def test_wrong_cells(self):
        for value in odd_values() + [{("all", "a"): ONE}, {("jan", "a"): None}]:
            if value != {}:
                self.assert_raises(InvalidCells, write_cells, FLAT, value)


class ChangedTexts(unittest.TestCase):
    """Texts that are cut, and texts with one token less, more, or another one, against the second recognizer."""

    OTHERS = ["a", "longer9ame", "sum", "of", "to", "step", "nothing", "1", "-2/3", "007", "1/0", "(", ")", "[", "]", ",",
              "+", "-", "*", "/", "<", "=", ":", "\n", "there", "both", "not", "leaves", "side", "tree", "if", ".", "up",
              "all", "level"]

    def changed(self, chance, text):
        tokens = TOKEN.findall(text)
        for at in range(len(tokens) + 1):
            yield tokens[:at]
        for at in range(len(tokens)):
            yield tokens[:at] + tokens[at + 1:]
            yield tokens[:at] + [tokens[at]] + tokens[at:]
            yield tokens[:at] + [chance.choice(self.OTHERS)] + tokens[at:]
            yield tokens[:at] + [chance.choice(self.OTHERS)] + tokens[at + 1:]
        for at in range(len(text) + 1):
            yield [text[:at]]

    def check(self, grammar, read, kind, texts, seed):
        chance = random.Random(seed)
        for text in texts:
            for tokens in self.changed(chance, text):
                other = chance.choice((" ", "  ")).join(tokens)
                spot = grammar.fault(other)
                error = raised(read, other)
                if spot is None:
                    self.assertIn(type(error), (type(None), kind), other)
                else:
                    self.assertIs(type(error), ParseError, other)
                    self.assertEqual(error.spot, spot, other)

    def test_formulas(self):
        texts = [text for text in FORMULA_TEXTS if text]
        self.check(Grammar(FORMULAS, "F"), read_formula, InvalidRule, texts, 1)

    def test_rules(self):
        texts = []
        for seed in range(12):
            chance = Chance(seed)
            outline = chance.outline()
            texts.extend(write_rule(outline, rule) for rule in chance.rules(outline)[:1])
        self.check(Grammar(RULES, "R"), lambda text: read_rule(FLAT, text), InvalidRule, texts, 2)

    def test_outlines(self):
        self.check(Grammar(OUTLINES, "O"), read_outline, InvalidOutline,
                   [TEXT, write_outline(Outline((WORD_SIDE,)))], 3)

    def test_cells(self):
        self.check(Grammar(CELLS, "C"), lambda text: read_cells(FLAT, text), InvalidCells,
                   [write_cells(FLAT, SOME.cells)], 4)

    def test_random_formulas_are_read_as_they_were(self):
        for seed in range(400):
            chance = Chance(seed)
            formula = chance.formula(chance.outline(), 5)
            self.assertTrue(is_formula(formula))
            text = write_formula(formula)
            self.assertEqual(read_formula(text), formula)
            self.assertEqual(read_formula(f" ( {text} ) "), formula)
            self.assertEqual(self.without_needless(text), [])

    def without_needless(self, text):
        """The texts with one pair of parentheses less that tell the same."""
        formula = read_formula(text)
        found = []
        for begin, sign in enumerate(text):
            if sign != "(" or begin and text[begin - 1].isalpha():
                continue
            depth, end = 1, begin
            while depth:
                end += 1
                depth += (text[end] == "(") - (text[end] == ")")
            less = text[:begin] + text[begin + 1:end] + text[end + 1:]
            if raised(read_formula, less) is None and read_formula(less) == formula:
                found.append(less)
        return found


if __name__ == "__main__":
    unittest.main()
