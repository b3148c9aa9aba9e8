import random
import re
import unittest
from fractions import Fraction

from sumstead.errors import InvalidNumber, InvalidOperation, InvalidWorth, ParseError, TooMany
from sumstead.store import codings as module
from sumstead.store.codings import (changed_at, coded, codings, decoded, entry_at, is_coding, is_row, joined, length_of)

from examples import ONE, Checks, nines, odd_values, raised

W = r"(?:0|-?[1-9][0-9]{0,59})(?:/[1-9][0-9]{0,59})?"
N = r"(?:0|[1-9][0-9]{0,3})"
E = rf"(?:{W}|\.)"
FORMS = (rf"p:{E}(?:,{E})*", rf"r:{E}(?:\*{N})?(?:,{E}(?:\*{N})?)*", rf"s:{N};(?:{N}={W}(?:,{N}={W})*)?",
         rf"d:{W}(?:\*{N})?(?:,{W}(?:\*{N})?)*")
ENDS = ("", "p:1", ":1", ":1;", "1", ";", "=1", "1;", "1=1", "0=1")
HOLE = None


def has_form(text):
    return any(re.fullmatch(form, text) for form in FORMS)


def form_fault(text):
    """The index at which a text has no form, or None."""
    if has_form(text):
        return None
    return max(many for many in range(len(text) + 1) if any(has_form(text[:many] + end) for end in ENDS))


def pair(number):
    return (number.numerator, number.denominator)


def fits(number):
    return abs(number.numerator) < 10 ** 18 and number.denominator <= 1000


def value_fault(text):
    """The first fault of a text that has its form, and the row if there is none."""
    kind, row, faults = text[0], [], []
    if kind == "s":
        many = int(text[2:text.index(";")])
        if not 1 <= many <= 1000:
            return 2, None
        row, last = [HOLE] * many, -1
        for match in re.finditer(rf"({N})=({W})", text):
            index = int(match.group(1))
            if not last < index < many:
                faults.append(match.start(1))
            elif not fits(Fraction(match.group(2))):
                faults.append(match.start(2))
            else:
                row[index], last = pair(Fraction(match.group(2))), index
    else:
        last = Fraction(0)
        for match in re.finditer(rf"({E})(?:\*({N}))?", text[2:]):
            many = int(match.group(2) or 1)
            entries = []
            for _ in range(min(many, 1001)):
                told = HOLE if match.group(1) == "." else Fraction(match.group(1))
                if kind == "d":
                    told = last = last + told
                entries.append(told)
            if len(row) + many > 1000 or any(told is not HOLE and not fits(told) for told in entries):
                faults.append(match.start(1) + 2)
            elif match.group(2) and many < 2:
                faults.append(match.start(2) + 2)
            row.extend(HOLE if told is HOLE else pair(told) for told in entries)
    return (min(faults), None) if faults else (None, tuple(row))


ROWS = [
    (HOLE,), (ONE,), ((0, 1),), ((-1, 2), HOLE), (ONE,) * 3 + (HOLE,), (HOLE,) * 1000, (ONE,) * 1000, ((nines(18), 1000),),
    ((-nines(18), 1), (nines(18), 1)), tuple((n, 1) for n in range(1000)), tuple((n, 1) for n in range(0, 50, 5)),
    tuple(pair(Fraction(n, 7)) for n in range(-9, 9)), (HOLE,) * 500 + (ONE,) + (HOLE,) * 499, (ONE, (2, 1)) * 9,
]
NOT_ROWS = [(), [ONE], (ONE,) * 1001, (1,), ((1, 0),), ((2, 2),), ((True, 1),), ((10 ** 18, 1),), ((1, 1001),), (ONE, ()), (ONE, "."),
            "p:1", (ONE, [1, 1]), (ONE, ZeroDivisionError)]


class Codings(unittest.TestCase, Checks):
    def test_constants(self):
        self.assertEqual((module.MAX_ROW, module.KINDS), (1000, ("plain", "runs", "sparse", "steps")))

    def test_example(self):
        self.assertEqual(codings(((1, 1), (1, 1), (1, 1), None)), {'plain': 'p:1,1,1,.', 'runs': 'r:1*3,.', 'sparse': 's:4;0=1,1=1,2=1'})

    def test_rows(self):
        for row in ROWS:
            self.assertIs(is_row(row), True)
        for row in NOT_ROWS + [value for value in odd_values() if value != (HOLE, HOLE)]:
            self.assertIs(is_row(row), False, row)
            for call in (codings, coded, lambda value: is_coding(value, None)):
                self.assert_raises(InvalidOperation, call, row)

    def test_all_kinds(self):
        row = ((1, 2), (1, 2), HOLE, HOLE, (-3, 1))
        self.assertEqual(codings(row), {"plain": "p:1/2,1/2,.,.,-3", "runs": "r:1/2*2,.*2,-3", "sparse": "s:5;0=1/2,1=1/2,4=-3"})
        self.assertEqual(list(codings(row)), ["plain", "runs", "sparse"])
        row = ((1, 2), (1, 1), (3, 2), (3, 2), (0, 1))
        self.assertEqual(codings(row), {"plain": "p:1/2,1,3/2,3/2,0", "runs": "r:1/2,1,3/2*2,0",
                                        "sparse": "s:5;0=1/2,1=1,2=3/2,3=3/2,4=0", "steps": "d:1/2*3,0,-3/2"})
        self.assertEqual(list(codings(row)), ["plain", "runs", "sparse", "steps"])
        self.assertEqual(codings((HOLE,)), {"plain": "p:.", "runs": "r:.", "sparse": "s:1;"})
        self.assertEqual(codings(((7, 1),)), {"plain": "p:7", "runs": "r:7", "sparse": "s:1;0=7", "steps": "d:7"})
        self.assertEqual(codings((HOLE,) * 1000)["runs"], "r:.*1000")

    def test_the_shortest_and_of_equal_ones_the_first(self):
        for row, text in (((ONE,), "p:1"), ((ONE, ONE), "p:1,1"), ((ONE,) * 3, "r:1*3"), ((HOLE,) * 3, "s:3;"), ((HOLE,) * 2, "s:2;"), ((HOLE,), "p:."),
                          ((HOLE,) * 4, "s:4;"), ((HOLE,) * 100, "s:100;"), (tuple((n, 1) for n in range(1, 1001)), "d:1*1000"),
                          ((HOLE,) * 9 + (ONE,), "r:.*9,1"), (((1, 1), (2, 1), (3, 1)), "d:1*3"), (((0, 1), (1, 1)), "p:0,1"),
                          (((5, 1), (5, 1), (7, 1)), "p:5,5,7"), ((ONE, HOLE, ONE), "p:1,.,1"), ((ONE,) * 1000, "r:1*1000")):
            self.assertEqual(coded(row), text)
        for row in ROWS:
            told = codings(row)
            shortest = min(len(text) for text in told.values())
            self.assertEqual(coded(row), [told[kind] for kind in module.KINDS if kind in told and len(told[kind]) == shortest][0])

    def test_all_codings_tell_the_row(self):
        chance = random.Random(11)
        rows = list(ROWS)
        for _ in range(300):
            pool = [pair(Fraction(chance.randint(-9, 9), chance.randint(1, 4))) for _ in range(chance.randint(1, 4))]
            if chance.random() < 0.6:
                pool.append(HOLE)
            row = []
            while len(row) < chance.randint(1, 30):
                row.extend([chance.choice(pool)] * chance.randint(1, 4))
            rows.append(tuple(row))
        for row in rows:
            for text in list(codings(row).values()) + [coded(row)]:
                self.assertEqual(decoded(text), row)
                self.assertEqual(length_of(text), len(row))
                self.assertIs(is_coding(row, text), True)
                self.assertEqual([entry_at(text, index) for index in (0, len(row) - 1)], [row[0], row[-1]])
            if len(row) > 1:
                self.assertIs(is_coding(row[1:], coded(row)), False)


class Reading(unittest.TestCase, Checks):
    def test_other_texts_for_a_row(self):
        for row, texts in (((ONE,) * 4, ("r:1*2,1*2", "r:1,1,1,1", "p:1,2/2,1/1,9/9", "r:1,1*3", "s:4;0=1,1=1,2=3/3,3=1", "d:1,0*3",
                                         "d:1,0,0/7,0", "d:1,0*2,0")),
                           ((HOLE, HOLE), ("s:2;", "p:.,.", "r:.*2", "r:.,.")), (((0, 1),), ("p:0", "p:0/5", "d:0/1", "s:1;0=0/9"))):
            for text in texts:
                self.assertEqual(decoded(text), row, text)
                self.assertIs(is_coding(row, text), True)
        for value in odd_values() + ["p:1,1", "p:1,1,1", "q:1", "p:1,1,1,1 ", ("p:1,1,1,1",)]:
            self.assertIs(is_coding((ONE,) * 4, value), False)

    def fault(self, text):
        error = raised(decoded, text)
        for call in (length_of, lambda told: entry_at(told, None), lambda told: changed_at(told, None, 1),
                     lambda told: joined(told, None), lambda told: joined("p:1", told)):
            self.assertIs(type(raised(call, text)), ParseError)
            self.assertEqual(raised(call, text).spot, error.spot)
        return error.spot

    def test_no_strings(self):
        for value in odd_values():
            if type(value) is not str:
                self.assertIsNone(self.fault(value))

    def test_forms(self):
        for text, spot in {
                "": 0, "x": 0, "P:1": 0, "p": 1, "p1": 1, "p:": 2, "p:,": 2, "p:1,": 4, "p:1;": 3, "p:1 ": 3, " p:1": 0, "p: 1": 2,
                "p:1,,1": 4, "p:1*2": 3, "p:nothing": 2, "p:-": 3, "p:-0": 3, "p:01": 3, "p:1/": 4, "p:1/0": 4, "p:1/01": 4, "p:1/2/3": 5,
                "p:..": 3, "p:+1": 2, "p:1.": 3, "r:": 2, "r:1*": 4, "r:1*x": 4, "r:1*-2": 4, "r:1*02": 5, "r:1*12345": 8, "r:1*2*2": 5,
                "r:.*": 4, "r:1*1/2": 5, "s": 1, "s:": 2, "s:;": 2, "s:1": 3, "s:x": 2, "s:01;": 3, "s:10000;": 6, "s:4;,": 4, "s:4;0": 5,
                "s:4;0=": 6, "s:4;0=.": 6, "s:4;0=1,": 8, "s:4;0=1;": 7, "s:4;00=1": 5, "s:4;12345=1": 8, "s:4;0=1*2": 7, "s:4;-1=1": 4,
                "s:1/2;": 3, "d:": 2, "d:.": 2, "d:1,.": 4, "d:1*": 4, "d:1*2,": 6, "d:1*02": 5, "d;1": 1, "d:1\n": 3, "p:" + "9" * 61: 62,
                "p:1/" + "9" * 61: 64, "p:-" + "9" * 61: 63, "r:" + "1" * 61 + "*2": 62}.items():
            self.assertEqual(form_fault(text), spot, text)
            self.assertEqual(self.fault(text), spot, text)

    def test_numbers(self):
        great = str(10 ** 18)
        for text, spot in {
                "r:1*0": 4, "r:1*1": 4, "r:.*1,.*1": 4, "r:1*2,1*1": 8, "r:1*1001": 2, "r:1*999,1*2": 8, "r:1*1000,1": 9, "r:.*9999": 2,
                "s:0;": 2, "s:1001;": 2, "s:9999;0=1": 2, "s:4;4=1": 4, "s:4;1=1,1=2": 8, "s:4;2=1,1=2": 8, "s:4;3=1,5=2": 8,
                "s:4;0=1,1=2/1001": 10, "s:4;0=1/1001,0=2": 6, f"s:2;0={great}": 6, f"p:1,{great}": 4, f"p:1,-{great}": 4, "p:1/1001": 2,
                f"r:1,{great}*1": 4, f"r:1*1,{great}": 4, f"d:{great}": 2, f"d:{nines(18)},1": 21, "d:1/1000,1/999": 9, "d:1*1001": 2,
                "d:1,1*998,1*2": 10, "d:1*1": 4, "d:1*0": 4, "d:5,1*1,3": 6, f"d:{10 ** 17}*10": 2, f"d:{10 ** 17}*9,{10 ** 17},1": 23,
                "s:0;5=1,5=1": 2, "s:3;7=1/1001": 4}.items():
            self.assertIsNone(form_fault(text), text)
            self.assertEqual(value_fault(text)[0], spot, text)
            self.assertEqual(self.fault(text), spot, text)
        # Forms are looked at ahead of numbers.
        self.assertEqual(self.fault("s:0;x"), 4)
        self.assertEqual(self.fault("r:1*0,"), 6)
        self.assertEqual(self.fault("p:1/1001,1/0"), 11)

    def test_bounds(self):
        self.assertEqual(decoded("r:1*1000"), (ONE,) * 1000)
        self.assertEqual(decoded("s:1000;999=1/1000")[999], (1, 1000))
        self.assertEqual(decoded(f"p:-{nines(18)}"), ((-nines(18), 1),))
        self.assertEqual(decoded(f"d:{10 ** 17}*9")[-1], (9 * 10 ** 17, 1))
        self.assertEqual(length_of("p:" + ",".join(["1"] * 1000)), 1000)
        self.assertEqual(self.fault("p:" + ",".join(["1"] * 1001)), 2002)
        self.assertEqual(self.fault("p:" + ",".join(["1"] * 20000)), 2002)
        self.assertEqual(decoded("p:" + "9" * 60 + "/" + "9" * 60), (ONE,))
        self.assertEqual(decoded("d:1/7,-1/7,1/999"), ((1, 7), (0, 1), (1, 999)))

    def test_changed_texts(self):
        chance = random.Random(5)
        signs = "prsd:;,.*=/-0123456789"
        begins = ["p:1,.,-3/4,12", "r:1*3,.*2,5/6,.*10", "s:12;0=1,3=-5/6,11=7", "d:1/2*3,-4,0*5", "s:1000;", "r:999999999999999999*1000"]
        faults = {"form": 0, "value": 0, "none": 0}
        for _ in range(2500):
            text = chance.choice(begins)
            for _ in range(chance.randint(1, 3)):
                at = chance.randint(0, len(text))
                text = text[:at] + chance.choice(("", chance.choice(signs))) + text[at + chance.randint(0, 1):]
            spot = form_fault(text)
            if spot is not None:
                faults["form"] += 1
                self.assertEqual(self.fault(text), spot, text)
                continue
            spot, row = value_fault(text)
            if spot is not None:
                faults["value"] += 1
                self.assertEqual(self.fault(text), spot, text)
            else:
                faults["none"] += 1
                self.assertEqual(decoded(text), row, text)
        self.assertTrue(all(many > 100 for many in faults.values()), faults)


class Changing(unittest.TestCase, Checks):
    def test_entries(self):
        self.assertEqual([entry_at("r:1*3,.,5", index) for index in range(5)], [ONE, ONE, ONE, HOLE, (5, 1)])
        for value in odd_values() + [5, -1, 10 ** 60]:
            if type(value) is bool or value not in (0, 1):
                self.assertIs(self.assert_raises(InvalidNumber, entry_at, "r:1*3,.,5", value).given, value)
                self.assertIs(self.assert_raises(InvalidNumber, changed_at, "r:1*3,.,5", value, value).given, value)

    def test_changed_rows(self):
        self.assertEqual(changed_at("r:1*3,.", 3, ONE), "r:1*4")
        self.assertEqual(changed_at("r:1*4", 1, HOLE), "p:1,.,1,1")
        self.assertEqual(changed_at("p:1,1,1", 0, ONE), "r:1*3")
        self.assertEqual(changed_at("p:1", 0, HOLE), "p:.")
        self.assertEqual(changed_at("d:1,1,1,9", 3, (4, 1)), "d:1*4")
        for value in odd_values() + [".", "1", (10 ** 18, 1), (1, 1001), (2, 4)]:
            if value is not None:
                self.assert_raises(InvalidWorth, changed_at, "r:1*3,.", 3, value)
        self.assert_raises(InvalidNumber, changed_at, "r:1*3,.", 4, 1)
        self.assert_raises(ParseError, changed_at, "r:1*3,", 4, 1)

    def test_joined_rows(self):
        self.assertEqual(joined("p:1,1", "r:1*2"), "r:1*4")
        self.assertEqual(joined("s:9;", "s:90;9=1"), "s:99;18=1")
        self.assertEqual(joined("d:1*5", "p:6,7"), "d:1*7")
        self.assertEqual(decoded(joined("p:.,2", "p:2,.")), (HOLE, (2, 1), (2, 1), HOLE))
        self.assertEqual(joined("r:1*999", "p:1"), "r:1*1000")
        self.assertEqual(self.assert_raises(TooMany, joined, "r:1*1000", "p:1").limit, 1000)
        self.assertEqual(self.assert_raises(ParseError, joined, "r:1*1", "p").spot, 4)
        self.assertEqual(self.assert_raises(ParseError, joined, "r:1*1000", "p:").spot, 2)

    def test_random_changes(self):
        chance = random.Random(3)
        for _ in range(200):
            row = tuple(chance.choice((HOLE, ONE, (1, 2), (-3, 1))) for _ in range(chance.randint(1, 20)))
            text = chance.choice(list(codings(row).values()))
            at, entry = chance.randrange(len(row)), chance.choice((HOLE, ONE, (7, 3)))
            changed = row[:at] + (entry,) + row[at + 1:]
            self.assertEqual(changed_at(text, at, entry), coded(changed))
            self.assertEqual(joined(text, coded(changed)), coded(row + changed))


if __name__ == "__main__":
    unittest.main()
