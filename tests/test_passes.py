import unittest

from sumstead.code import passes
from sumstead.code.judge import heights, is_sound, needs_of, slots_at
from sumstead.code.machine import Machine
from sumstead.code.making import code_of, is_code
from sumstead.code.passes import PASSES, folded, passed, pruned, shared, threaded
from sumstead.errors import InvalidCode, InvalidOperation
from sumstead.plain.rules import Rule

import codes
from chance import Chance
from codes import BEHIND, CodeMaker, CodeReading, is_shared
from examples import HERE, NOTHING, RULED, SOME, Checks, nines, number, odd_values, to
from test_code import CODE, FOLD, UNSOUND

TELL = ("tell",)
YES, NO = ("truth", True), ("truth", False)
PLUS = ("plus",)
A, B = to(("shop", "a")), to(("shop", "b"))
CALLS = {"folded": folded, "pruned": pruned, "threaded": threaded, "shared": shared}


class Folding(unittest.TestCase):
    def test_each_operator(self):
        for row, result in (
                ((number(1), number(2), PLUS), number(3)), ((number(1), number(2), ("minus",)), number(-1)),
                ((number(2, 3), number(3), ("times",)), number(2)), ((number(1), number(-2), ("over",)), number(-1, 2)),
                ((NOTHING, number(2), PLUS), number(2)), ((NOTHING, number(2), ("minus",)), number(-2)),
                ((NOTHING, NOTHING, PLUS), NOTHING), ((NOTHING, number(2), ("times",)), NOTHING),
                ((number(1), NOTHING, ("over",)), NOTHING), ((NOTHING, number(0), ("over",)), NOTHING),
                ((number(0), number(2), ("over",)), number(0))):
            self.assertEqual(folded(row + (TELL,)), (result, TELL))
        for row, truth in (((number(1), number(2), ("below",)), True), ((number(2), number(2), ("below",)), False),
                           ((number(2), NOTHING, ("below",)), False), ((number(2), number(2), ("same",)), True),
                           ((NOTHING, NOTHING, ("same",)), False), ((NOTHING, ("there",)), False),
                           ((number(0), ("there",)), True), ((YES, ("not",)), False), ((NO, ("not",)), True)):
            at = len(row)
            code = row + (("unless", at + 3), HERE, ("jump", at + 4), NOTHING, TELL)
            self.assertEqual(folded(code), (("truth", truth), ("unless", 4), HERE, ("jump", 5), NOTHING, TELL))

    def test_one_behind_the_other(self):
        code = (number(1), number(2), number(3), ("times",), PLUS, number(7), ("same",), ("not",), ("unless", 10), HERE, HERE, TELL)
        self.assertFalse(is_sound(code))
        code = code[:8] + (("unless", 10), ("jump", 10), HERE, TELL)
        self.assertEqual(folded(code), (NO, ("unless", 3), ("jump", 3), HERE, TELL))

    def test_what_refuses_is_left(self):
        zero = (number(1), number(0), ("over",), TELL)
        self.assertEqual(folded(zero), zero)
        great = (number(nines(1000)), number(1), PLUS, TELL)
        self.assertEqual(folded(great), great)
        self.assertEqual(folded((number(nines(1000)), number(1), ("minus",), TELL)), (number(nines(1000) - 1), TELL))
        code = (number(1), number(2), PLUS, number(5), number(5), ("minus",), ("over",), number(1), number(1), PLUS, PLUS, TELL)
        self.assertEqual(folded(code), (number(3), number(0), ("over",), number(2), PLUS, TELL))
        self.assertEqual(folded(folded(code)), folded(code))

    def test_what_is_named_is_left(self):
        # The second constant is come to by two ways.
        code = (YES, ("unless", 4), number(1), ("jump", 5), number(2), number(3), PLUS, TELL)
        self.assertEqual(folded(code), code)
        # The first one may be.
        code = (HERE, YES, ("unless", 3), number(2), number(3), PLUS, PLUS, TELL)
        self.assertEqual(folded(code), (HERE, YES, ("unless", 3), number(5), PLUS, TELL))
        # It may stand behind a fold, too.
        code = (FOLD[:4] + (5,), number(1), number(2), PLUS, ("next",), TELL)
        self.assertEqual(folded(code), (FOLD[:4] + (3,), number(3), ("next",), TELL))
        # The operator is named.
        code = (NO, number(4), number(5), YES, ("unless", 5), PLUS, TELL)
        self.assertFalse(is_sound(code))
        code = (number(4), number(5), YES, ("unless", 4), PLUS, TELL)
        self.assertEqual(folded(code), code)

    def test_where_no_way_leads(self):
        code = (number(1), TELL, YES, NOTHING, PLUS, ("not",), YES, YES, ("over",))
        self.assertTrue(is_sound(code) and is_sound(folded(code)))
        code = (("jump", 4), number(1), number(2), PLUS, number(4), TELL)
        self.assertTrue(is_sound(folded(code)))
        self.assertEqual(folded((("jump", 3), NOTHING, ("unless", 4), number(1), number(1), PLUS, TELL))[-1], TELL)


class Pruning(unittest.TestCase):
    def test_what_is_never_come_to(self):
        self.assertEqual(pruned((NOTHING, TELL, PLUS, ("next",))), (NOTHING, TELL))
        self.assertEqual(pruned((YES, ("jump", 3), HERE, ("unless", 5), ("jump", 5), HERE, TELL)), (HERE, TELL))
        self.assertEqual(pruned((("jump", 2), HERE, NOTHING, TELL)), (NOTHING, TELL))

    def test_told_choices(self):
        for truth, result in ((YES, number(1)), (NO, number(2))):
            code = (truth, ("unless", 4), number(1), ("jump", 5), number(2), TELL)
            self.assertEqual(pruned(code), (result, TELL))
        self.assertEqual(pruned((HERE, YES, ("unless", 5), number(2), PLUS, TELL)), (HERE, number(2), PLUS, TELL))
        self.assertEqual(pruned((FOLD[:4] + (7,), NO, ("unless", 5), NOTHING, ("jump", 6), A, ("next",), TELL)),
                         (FOLD[:4] + (3,), A, ("next",), TELL))

    def test_jumps_to_what_stands_behind(self):
        self.assertEqual(pruned((("jump", 1), NOTHING, TELL)), (NOTHING, TELL))
        self.assertEqual(pruned((NOTHING, ("jump", 2), ("jump", 3), ("jump", 4), TELL)), (NOTHING, TELL))
        code = (A, ("there",), ("unless", 4), ("jump", 4), ("jump", 5), NOTHING, TELL)
        self.assertEqual(pruned(code), (A, ("there",), ("unless", 3), NOTHING, TELL))

    def test_an_unless_that_is_named(self):
        code = (A, ("there",), ("unless", 5), YES, ("jump", 6), NO, ("unless", 9), number(1), TELL, number(2), TELL)
        self.assertEqual(pruned(code), code)

    def test_an_unless_becomes_plain(self):
        code = (YES, ("unless", 4), NO, ("jump", 5), YES, ("unless", 7), HERE, NOTHING, TELL)
        self.assertFalse(is_sound(code))
        code = (YES, ("unless", 4), NO, ("jump", 5), YES, ("unless", 8), HERE, TELL, NOTHING, TELL)
        self.assertEqual(pruned(code), (NOTHING, TELL))


class Threading(unittest.TestCase):
    def test_jumps_to_jumps(self):
        code = (A, ("there",), ("unless", 4), ("jump", 5), ("jump", 6), ("jump", 4), ("jump", 7), NOTHING, TELL)
        self.assertFalse(is_code(code))
        code = (A, ("there",), ("unless", 4), ("jump", 5), ("jump", 6), ("jump", 6), ("jump", 7), NOTHING, TELL)
        self.assertEqual(threaded(code), (A, ("there",), ("unless", 7), ("jump", 7), ("jump", 7), ("jump", 7), ("jump", 7), NOTHING, TELL))

    def test_folds_and_others_stay(self):
        code = (FOLD[:4] + (3,), A, ("next",), ("jump", 5), NOTHING, TELL)
        self.assertEqual(threaded(code), code)
        self.assertEqual(threaded((NOTHING, TELL, ("jump", 3), ("jump", 4), ("jump", 5), PLUS)),
                         (NOTHING, TELL, ("jump", 5), ("jump", 5), ("jump", 5), PLUS))


class Sharing(unittest.TestCase):
    def test_equal_moves_are_asked_once(self):
        code = (A, B, PLUS, A, PLUS, HERE, PLUS, B, PLUS, A, PLUS, TELL)
        out = shared(code)
        self.assertTrue(is_sound(out) and is_shared(out))
        self.assertEqual(needs_of(out), needs_of(code))
        self.assertLessEqual(len(out), 24)
        self.assertEqual(shared((A, A, PLUS, TELL, A, B, B)).count(A), 1)
        self.assertEqual(shared((A, B, PLUS, TELL)), (A, B, PLUS, TELL))

    def test_sixty_moves(self):
        for many in (59, 60):
            moves = [("at", (("time", ("to", f"n{n}")),)) for n in range(many)]
            code = tuple(moves) + (PLUS,) * (many - 1) + tuple(row for one in moves for row in (one, PLUS)) + (TELL,)
            out = shared(code)
            self.assertTrue(is_sound(out) and is_shared(out))
            self.assertEqual(slots_at(out, len(out) - 1), tuple(range(many)))

    def test_a_thousand_instructions(self):
        code = (A,) * 500 + (PLUS,) * 499 + (TELL,)
        self.assertEqual(len(code), 1000)
        out = shared(code)
        self.assertTrue(is_sound(out) and is_shared(out))
        machine = Machine(RULED, (out,))
        self.assertEqual(machine.answer(("jan", "diff")), ("worth", (2000, 1)))
        longer = (A,) * 501 + (PLUS,) * 500 + (TELL,)
        self.assertTrue(is_sound(shared(longer)) and len(shared(longer)) <= 2000)
        longest = (A,) * 1000 + (PLUS,) * 999 + (TELL,)
        self.assertTrue(is_sound(shared(longest)) and len(shared(longest)) <= 2000)

    def test_other_code_tells_the_same(self):
        for code in ((A, ("set", 0), A, PLUS, TELL), (FOLD[:4] + (3,), A, ("next",), A, PLUS, TELL),
                     (YES, ("unless", 4), A, ("jump", 5), A, A, PLUS, TELL)):
            out = shared(code)
            self.assertTrue(is_sound(out))
            self.assertEqual([Machine(RULED, (one,)).answer(("all", "diff")) for one in (code, out)],
                             [("worth", (20, 1))] * 2)


class Passes(unittest.TestCase, Checks):
    def test_words(self):
        self.assertEqual(PASSES, ("folded", "pruned", "threaded", "shared"))
        self.assertEqual(passed(CODE, ()), CODE)
        code = (number(1), number(2), PLUS, A, PLUS, A, PLUS, TELL)
        self.assertEqual(passed(code, ("folded", "shared")), shared(folded(code)))
        self.assertEqual(passed(code, ("shared", "folded")), folded(shared(code)))
        self.assertTrue(is_sound(passed(code, PASSES * 5)))
        self.assert_raises(InvalidOperation, passed, code, PASSES * 5 + ("folded",))
        for words in (list(PASSES), ("Folded",), ("folded", 1), "folded", (PASSES,), ("passed",), ("",)):
            self.assert_raises(InvalidOperation, passed, CODE, words)

    def test_errors(self):
        for value in odd_values() + UNSOUND + [list(CODE)]:
            for call in CALLS.values():
                self.assert_raises(InvalidCode, call, value)
            self.assert_raises(InvalidCode, passed, value, value)
            if value != ():
                self.assert_raises(InvalidOperation, passed, CODE, value)

    def test_a_great_constant_goes_on(self):
        code = (number(nines(60)),) + (number(nines(60)), ("times",)) * 15 + (TELL,)
        out = folded(code)
        self.assertEqual(out, (number(nines(60) ** 16), TELL))
        self.assertEqual(passed(code, PASSES * 2), out)

    def check(self, code, word, out):
        self.assertTrue(codes.is_sound(out) and is_code(out))
        self.assertLessEqual(len(out), len(code) if word != "shared" else 2 * len(code))
        if word in BEHIND:
            self.assertTrue(BEHIND[word](out), (word, code, out))
        moves = {row[1] for row in code if row[0] == "at"}
        if not any(row[0] in ("jump", "unless", "fold", "set", "get") for row in code) and len(moves) <= 60:
            self.assertTrue(word != "shared" or is_shared(out))
        self.assertEqual(heights(out), codes.heights(out))
        self.assertLessEqual(set(needs_of(out)), set(needs_of(code)))

    def test_random_code(self):
        changed = {}
        for seed in range(250):
            chance = Chance(seed)
            outline = chance.outline()
            code = CodeMaker(chance, outline, 100).make()
            for word in PASSES + PASSES[::-1]:
                out = CALLS[word](code)
                self.check(code, word, out)
                self.assertEqual(passed(code, (word,)), out)
                changed[word] = changed.get(word, 0) + (out != code)
                code = out
        self.assertTrue(all(changed[word] > 3 for word in PASSES[:3]), changed)

    def test_random_straight_code(self):
        chance = Chance(5)
        for _ in range(200):
            outline = chance.outline()
            rows, height = [], 0
            while len(rows) < 40 or height != 1:
                if height < 2 or len(rows) < 40 and chance.random.random() < 0.5:
                    rows.append(chance.one_of((("at", chance.moves(outline)), number(2), NOTHING)))
                    height += 1
                else:
                    rows.append((chance.one_of(("plus", "minus", "times", "over")),))
                    height -= 1
            code = tuple(rows) + (TELL,)
            for words in (("shared",), ("folded", "shared"), ("shared", "folded", "pruned")):
                self.check(code, words[0], CALLS[words[0]](code))
                self.assertTrue(is_shared(passed(code, words)))

    def test_machines_answer_alike(self):
        refused = 0
        for seed in range(250):
            chance = Chance(seed)
            cube = chance.cube()
            made = tuple(chance.one_of((code_of(rule.formula), CodeMaker(chance, cube.outline).make())) for rule in cube.rules)
            words = [tuple(chance.one_of(PASSES) for _ in range(chance.random.randint(1, 6))) for _ in made]
            machine = Machine(cube, tuple(passed(code, row) for code, row in zip(made, words)))
            reading = CodeReading(cube, made)
            for place in cube.outline.places():
                answer = reading.answer(place)
                self.assertEqual(machine.answer(place), answer, (seed, place))
                refused += answer[0] == "refused"
        self.assertGreater(refused, 500)

    def test_no_refusal_is_hidden(self):
        zero = ("over", number(1), number(0))
        for formula in (("times", zero, NOTHING), ("if", ("there", zero), number(1), number(1)), ("times", NOTHING, zero),
                        ("if", ("both", ("there", NOTHING), ("there", zero)), zero, number(2)),
                        ("first", "time", ("leaves",), ("plus", number(1), zero)), ("plus", A, A),
                        ("if", ("either", ("there", number(1)), ("there", zero)), number(3), zero)):
            cube = SOME.with_rules((Rule((None, ("b",)), formula),))
            for words in ((word,) for word in PASSES):
                machine = Machine(cube, (passed(code_of(formula), words * 2 + PASSES * 2),))
                for place in cube.outline.places():
                    self.assertEqual(machine.answer(place), cube.answer(place), (formula, words))

    def test_longest_code(self):
        code = (number(1),) + (number(1), PLUS) * 999 + (TELL,)
        self.assertEqual(len(code), 2000)
        self.assertEqual(folded(code), (number(1000), TELL))
        nested = [NOTHING]
        while len(nested) + 5 <= 2000:
            many = len(nested)
            shifted = [row[:-1] + (row[-1] + 2,) if row[0] in ("jump", "unless") else row for row in nested]
            nested = [YES, ("unless", many + 3)] + shifted + [("jump", many + 4), HERE]
        code = tuple(nested) + (TELL,)
        self.assertTrue(is_sound(code))
        self.assertEqual(pruned(code), (NOTHING, TELL))
        self.assertTrue(codes.is_threaded(threaded(code)))
        long_way = tuple(("jump", at + 1) for at in range(1998)) + (NOTHING, TELL)
        self.assertEqual(pruned(long_way), (NOTHING, TELL))
        self.assertEqual(threaded(long_way), (("jump", 1998),) * 1998 + (NOTHING, TELL))


if __name__ == "__main__":
    unittest.main()
