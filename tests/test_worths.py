import random
import unittest
from fractions import Fraction

from sumstead.base import worths
from sumstead.base.worths import (is_below, is_cell_worth, is_great, is_name, is_weight, is_worth, minus, over, plus,
                                  read_worth, times, weighted_sum, worth, worth_text)
from sumstead.errors import InvalidNumber, InvalidOperation, InvalidWorth, ParseError, Refused

from examples import FLAT, SHOP, TIME, Checks, nines, odd_values


def pair(fraction):
    return (fraction.numerator, fraction.denominator)


class Kinds(unittest.TestCase):
    def test_constants(self):
        self.assertEqual((worths.ZERO, worths.ONE, worths.MOST_DIGITS), ((0, 1), (1, 1), 1000))

    def test_worths(self):
        for value in ((0, 1), (1, 1), (-3, 2), (2, 3), (nines(5000), 1), (1, 10 ** 5000), (-nines(61), 10)):
            self.assertIs(is_worth(value), True, value)
        for value in odd_values() + [(0, 2), (2, 4), (1, -2), (1, 0), (0, 0), (True, 1), (1, True), (1,), (1, 2, 3),
                                     [1, 2], (1, "2"), ("1", 2), (None, 1), (1, None), (1.0, 1)]:
            self.assertIs(is_worth(value), False, value)

    def test_names(self):
        for value in ("a", "z", "a1", "abcdefgh", "a2345678", "z9"):
            self.assertIs(is_name(value), True, value)
        for value in odd_values() + ["abcdefghi", "1", "9a", "a_", "aB", "a b", " a", "a ", "-", "a\n", ("a",), ["a"]]:
            self.assertIs(is_name(value), False, value)

    def test_cell_worths(self):
        for value in ((0, 1), (nines(18), 1), (-nines(18), 1000), (1, 1000), (999, 1000)):
            self.assertIs(is_cell_worth(value), True, value)
        for value in odd_values() + [(10 ** 18, 1), (-10 ** 18, 1), (1, 1001), (2, 4), (True, 1), [1, 1]]:
            self.assertIs(is_cell_worth(value), False, value)

    def test_weights(self):
        for value in ((99, 1), (-99, 10), (1, 10), (-1, 1), (1, 9)):
            self.assertIs(is_weight(value), True, value)
        for value in odd_values() + [(0, 1), (100, 1), (-100, 1), (1, 11), (2, 4), (True, 1), [1, 1]]:
            self.assertIs(is_weight(value), False, value)


class MakingWorths(unittest.TestCase, Checks):
    def test_lowest_terms(self):
        self.assertEqual(worth(4, -6), (-2, 3))
        self.assertEqual(worth(0, -7), (0, 1))
        self.assertEqual(worth(-4, -2), (2, 1))
        self.assertEqual(worth(7), (7, 1))
        self.assertEqual(worth(nines(4000), nines(4000)), (1, 1))
        self.assertEqual(worth(1, -nines(4000)), (-1, nines(4000)))

    def test_errors(self):
        for top in [10 ** 4000, -10 ** 4000, True, False, None, "1", (1, 1), [], {}, TIME]:
            error = self.assert_raises(InvalidNumber, worth, top)
            self.assertIs(error.given, top)
            self.assertIs(self.assert_raises(InvalidNumber, worth, top, 0).given, top)
        for bottom in [10 ** 4000, -10 ** 4000, 0, True, False, None, "1", (1, 1), [], {}, TIME]:
            self.assertIs(self.assert_raises(InvalidNumber, worth, 1, bottom).given, bottom)


class Reckoning(unittest.TestCase, Checks):
    def test_example(self):
        told = [worth(4, -6), plus((1, 2), None), minus(None, (1, 2)), times((2, 3), (3, 4)), over(None, (0, 1)),
                over((1, 2), (-1, 3))]
        self.assertEqual(told, [(-2, 3), (1, 2), (-1, 2), (1, 2), None, (-3, 2)])

    def test_nothing(self):
        self.assertIsNone(plus(None, None))
        self.assertIsNone(minus(None, None))
        self.assertEqual(plus(None, (3, 2)), (3, 2))
        self.assertEqual(minus((3, 2), None), (3, 2))
        self.assertEqual(minus(None, (0, 1)), (0, 1))
        for call in (times, over):
            self.assertIsNone(call(None, (3, 2)))
            self.assertIsNone(call((3, 2), None))
            self.assertIsNone(call(None, None))
        self.assertIsNone(times((0, 1), None))
        self.assertIsNone(over((0, 1), None))

    def test_against_fractions(self):
        chance = random.Random(1)
        for _ in range(500):
            one = Fraction(chance.randint(-50, 50), chance.randint(1, 12))
            other = Fraction(chance.randint(-50, 50), chance.randint(1, 12))
            a, b = pair(one), pair(other)
            self.assertEqual(plus(a, b), pair(one + other))
            self.assertEqual(minus(a, b), pair(one - other))
            self.assertEqual(times(a, b), pair(one * other))
            self.assertIs(is_below(a, b), one < other)
            if other != 0:
                self.assertEqual(over(a, b), pair(one / other))

    def test_division_by_zero(self):
        self.assertEqual(self.assert_raises(Refused, over, (1, 2), (0, 1)).reason, ("zero",))
        self.assertEqual(self.assert_raises(Refused, over, (0, 1), (0, 1)).reason, ("zero",))
        # The error stands behind those of the arguments.
        self.assert_raises(InvalidWorth, over, 3, (0, 1))
        self.assert_raises(InvalidWorth, over, (1, 2), (0, 2))

    def test_lengths(self):
        long, longer = (nines(4000), 1), (10 ** 4000, 1)
        for call in (plus, minus, times, over):
            call(long, long)
            call((1, nines(4000)), (-nines(4000), 1))
            for value in (longer, (-10 ** 4000, 1), (1, 10 ** 4000)):
                self.assert_raises(InvalidWorth, call, value, (1, 1))
                self.assert_raises(InvalidWorth, call, (1, 1), value)
                self.assert_raises(InvalidWorth, call, None, value)
        self.assertEqual(times(long, long), (nines(4000) ** 2, 1))
        is_below(long, long)
        for value in (longer, (1, 10 ** 4000)):
            self.assert_raises(InvalidWorth, is_below, value, (1, 1))
            self.assert_raises(InvalidWorth, is_below, (1, 1), value)
            self.assert_raises(InvalidWorth, is_great, value)
            self.assert_raises(InvalidWorth, worth_text, value)
            self.assert_raises(InvalidOperation, weighted_sum, ((value, None),))
            self.assert_raises(InvalidOperation, weighted_sum, (((1, 1), value),))

    def test_wrong_operands(self):
        for value in odd_values():
            if value is None:
                continue
            for call in (plus, minus, times, over):
                self.assert_raises(InvalidWorth, call, value, (1, 1))
                self.assert_raises(InvalidWorth, call, (1, 1), value)
                self.assert_raises(InvalidWorth, call, None, value)
            self.assert_raises(InvalidWorth, worth_text, value)
        for value in odd_values():
            self.assert_raises(InvalidWorth, is_below, value, (1, 1))
            self.assert_raises(InvalidWorth, is_below, (1, 1), value)
            self.assert_raises(InvalidWorth, is_great, value)

    def test_weighted_sums(self):
        self.assertIsNone(weighted_sum(()))
        self.assertIsNone(weighted_sum((((1, 1), None), ((0, 1), None))))
        self.assertEqual(weighted_sum((((0, 1), (5, 1)), ((7, 1), None))), (0, 1))
        self.assertEqual(weighted_sum((((1, 2), (1, 3)), ((-2, 1), (1, 4)))), (-1, 3))
        self.assertEqual(weighted_sum((((nines(4000), 1), (1, 1)),)), (nines(4000), 1))
        for value in odd_values() + [[((1, 1), (1, 1))], (((1, 1),),), (((1, 1), (1, 1), (1, 1)),), ((None, (1, 1)),),
                                     ([(1, 1), (1, 1)],), (((1, 1), 3),), (((1, 1), (2, 2)),), (((True, 1), None),)]:
            if value != ():
                self.assert_raises(InvalidOperation, weighted_sum, value)

    def test_great(self):
        for value in ((nines(1000), 1), (-nines(1000), 1), (1, nines(1000)), (0, 1)):
            self.assertIs(is_great(value), False)
        for value in ((10 ** 1000, 1), (-10 ** 1000, 1), (1, 10 ** 1000), (nines(4000), 1)):
            self.assertIs(is_great(value), True)


class Texts(unittest.TestCase, Checks):
    def test_writing(self):
        told = {None: "nothing", (0, 1): "0", (-3, 1): "-3", (1, 2): "1/2", (-7, 10): "-7/10", (12, 1): "12"}
        for value, text in told.items():
            self.assertEqual(worth_text(value), text)
            self.assertEqual(read_worth(text), value)
        self.assertEqual(worth_text((nines(4000), 1)), "9" * 4000)

    def test_reading(self):
        told = {"4/6": (2, 3), "3/1": (3, 1), "0/5": (0, 1), "-4/6": (-2, 3), "0": (0, 1), "10/4": (5, 2),
                "9" * 60: (nines(60), 1), "-" + "9" * 60 + "/" + "9" * 60: (-1, 1)}
        for text, value in told.items():
            self.assertEqual(read_worth(text), value)

    def test_wrong_texts(self):
        told = {"": 0, "-": 1, "-0": 1, "-0/1": 1, "--1": 1, "+1": 0, "00": 1, "01": 1, "0x": 1, "1x": 1, "1/": 2,
                "1//2": 2, "1/0": 2, "1/02": 2, "1/-2": 2, "1/2/3": 3, "1/2x": 3, "1/2 ": 3, " 1": 0, "1 ": 1,
                "1 /2": 1, "0/": 2, "0/0": 2, "12-": 2, "-1-": 2, "-a": 1, "1.5": 1, "1\n": 1, "\t1": 0, "/2": 0,
                "n": 1, "nothin": 6, "nothing ": 7, "nothing1": 7, "nothinG": 6, "nx": 1, "Nothing": 0, "othing": 0,
                "-nothing": 1, "1nothing": 1, "nnothing": 1, "9" * 61: 60, "-" + "1" * 61: 61,
                "1/" + "1" * 61: 62, "1/" + "1" * 60 + "x": 62, "1" * 60 + "x": 60, "1" * 59: None}
        for text, spot in told.items():
            if spot is None:
                read_worth(text)
            else:
                self.assertEqual(self.assert_raises(ParseError, read_worth, text).spot, spot, text)

    def test_no_texts(self):
        for value in (None, True, 1, (1, 1), [], {}, ("1",), ["1"], TIME, SHOP, FLAT):
            self.assertIsNone(self.assert_raises(ParseError, read_worth, value).spot)

    def test_each_sign_of_texts(self):
        """The first sign with which no text goes on, by a pattern of all texts and a plain search."""
        import itertools
        import re
        whole = re.compile(r"(-[1-9][0-9]*|0|[1-9][0-9]*)(/[1-9][0-9]*)?\Z|nothing\Z")
        tails = ["", "1", "0", "/1", "1/1", "nothing", "othing", "thing", "hing", "ing", "ng", "g"]

        def goes_on(begun):
            return any(whole.match(begun + tail) for tail in tails)

        for many in range(5):
            for signs in itertools.product("-01/nox", repeat=many):
                text = "".join(signs)
                spots = [spot for spot in range(len(text)) if not goes_on(text[:spot + 1])]
                expected = spots[0] if spots else (None if whole.match(text) else len(text))
                if expected is None:
                    self.assertEqual(read_worth(worth_text(read_worth(text))), read_worth(text))
                else:
                    self.assertEqual(self.assert_raises(ParseError, read_worth, text).spot, expected, text)


if __name__ == "__main__":
    unittest.main()
