import unittest

from sumstead.disk.log import log_text, read_log, read_plain, write_plain
from sumstead.errors import InvalidCube, InvalidNumber, InvalidOperation, ParseError
from sumstead.hands.line import Line
from sumstead.plain.cubes import Cube

from chance import Chance
from examples import FLAT, GROWTH, LOOP, ONE, RULED, SOME, Checks, nines, odd_values, raised
from test_line import a_deed

JAN_A, MAR_A = ("jan", "a"), ("mar", "a")
PUT = ("cells", {MAR_A: (1, 1), ("jan", "b"): None})
RENAME = ("edits", (("rename", "shop", "a", "z"),))


def nested(deep, inner=()):
    value = inner
    for _ in range(deep):
        value = (value,)
    return value


class PlainValues(unittest.TestCase, Checks):
    def test_the_examples(self):
        self.assertEqual([write_plain(("a", 3, None, {("b",): (1, 2)})), read_plain("(x () -4)")], ["(a 3 - {(b) (1 2)})", ("x", (), -4)])

    def test_texts(self):
        for value, text in ((None, "-"), (0, "0"), (-7, "-7"), (nines(60), "9" * 60), (-nines(60), "-" + "9" * 60), ("a", "a"),
                            ("z" * 19 + "9", "z" * 19 + "9"), ((), "()"),
                            ({}, "{}"), ((1, "b", ()), "(1 b ())"), ({("b",): 1, ("a", "c"): None, (): {}},
                                                                     "{() {} (a c) - (b) 1}"), ((None, None), "(- -)"),
                            ((None, -1, {(): ()}), "(- -1 {() ()})"), ({("a",): {("b", "c"): ("d",)}}, "{(a) {(b c) (d)}}")):
            self.assertEqual(write_plain(value), text)
            self.assertEqual(read_plain(text), value)
        self.assertEqual(list(read_plain("{(a) 1 (a b) 2 (b) 3}")), [("a",), ("a", "b"), ("b",)])

    def test_values_that_are_not_plain(self):
        for value in (True, False, 10 ** 60, -10 ** 60, "", "A", "1a", "a b", "a" * 21, "a_", [], [1], {1: 2}, {"a": 1},
                      {("A",): 1}, {(1,): 1}, {("a" * 21,): 1}, {("a", ()): 1},
                      (1, True), ((("x", [""]),),), {("a",): {"b": 1}}, {("a",): 10 ** 60}, SOME, FLAT, (GROWTH,), "a\n", {(True,): 1}):
            self.assert_raises(InvalidOperation, write_plain, value)

    def test_forty_levels_and_one_more(self):
        for value in (nested(39), nested(40, 1), nested(39, {}), nested(38, {("a",): 1}), nested(37, {("a",): ()}),
                      nested(38, {("a",): ()}), nested(38, {(): -1})):
            self.assertEqual(read_plain(write_plain(value)), value)
        for value in (nested(40), nested(41, "a"), nested(40, {}), nested(39, {("a",): 1}), nested(39, {(): 1}),
                      nested(38, {("a",): ((),)}), nested(38, {("a",): {("b",): 1}}), nested(100)):
            self.assert_raises(InvalidOperation, write_plain, value)
        self.assertEqual(read_plain("(" * 40 + ")" * 40), nested(39))
        self.assertEqual(self.assert_raises(ParseError, read_plain, "(" * 41 + ")" * 41).spot, 40)
        self.assertEqual(self.assert_raises(ParseError, read_plain, "(" * 60000).spot, 40)
        self.assertEqual(self.assert_raises(ParseError, read_plain, "(" * 40 + "{}").spot, 40)
        self.assertEqual(self.assert_raises(ParseError, read_plain, "(" * 39 + "{(").spot, 40)
        self.assertEqual(read_plain("(" * 39 + "{}" + ")" * 39), nested(39, {}))
        # brackets that are closed again do not count
        self.assertEqual(len(read_plain("(" + "() " * 100 + "(" * 39 + ")" * 39 + ")")), 101)
        self.assertEqual(self.assert_raises(ParseError, read_plain, "(" + "() " * 100 + "(" * 40).spot, 1 + 300 + 39)
        self.assertEqual(self.assert_raises(ParseError, read_plain, "({() -} {(a) {}} " + "(" * 40).spot, 17 + 39)

    def test_texts_that_are_wrong(self):
        for value in odd_values():
            if type(value) is not str:
                self.assertIsNone(self.assert_raises(ParseError, read_plain, value).spot)
        for text, spot in (("", 0), (" ", 0), ("a ", 1), ("a b", 1), (" a", 0), ("A", 0), ("aB", 1), ("a_", 1), ("a" * 21, 20),
                           ("-0", 1), ("-a", 1), ("--", 1), ("- ", 1), ("01", 1),
                           ("00", 1), ("1a", 1), ("1-", 1), ("9" * 61, 60), ("-" + "9" * 61, 61), ("(", 1), (")", 0), ("( )", 1),
                           ("(a )", 3), ("(a  b)", 3), ("(a", 2), ("(a b", 4), ("(a}", 2),
                           ("(a)b", 3), ("()()", 2), ("{", 1), ("{a 1}", 1), ("{1 1}", 1), ("{() }", 4), ("{()}", 3), ("{()1}", 3),
                           ("{() 1 }", 6), ("{() 1 (a)}", 9), ("{(1) 1}", 2), ("{(-) 1}", 2),
                           ("{(a (b)) 1}", 4), ("{(a 1) 2}", 4), ("{(a b) 1", 8), ("{ }", 1), ("{(a" + "b" * 20 + ") 1}", 22),
                           ("(1 2\n)", 4), ("a\n", 1), ("\t", 0), ("{(a) 1)", 6), ("(-)-", 3),
                           ("(-1-)", 3), ("(0 00)", 4)):
            self.assertEqual(self.assert_raises(ParseError, read_plain, text).spot, spot, text)

    def test_keys_that_do_not_ascend(self):
        for text, spot in (("{(b) 1 (a) 2}", 7), ("{(a) 1 (a) 2}", 7), ("{(a b) 1 (a) 2}", 9), ("{(a) 1 (b) 2 (a) 3}", 13),
                           ("{(a) {(c) 1 (b) 2} (a) 3}", 12), ("({(a) 1} {(c) 1 () 2})", 16),
                           ("{(b) 1 (a) 2 (c) 3 (b) 4}", 7), ("{() () () ()}", 7), ("{(b) {(b) () (c) ()} (a) {(d) () (c) ()}}", 21)):
            self.assertEqual(self.assert_raises(ParseError, read_plain, text).spot, spot, text)
        # behind all other faults
        self.assertEqual(self.assert_raises(ParseError, read_plain, "{(b) 1 (a) 2 }").spot, 13)
        self.assertEqual(self.assert_raises(ParseError, read_plain, "({(b) 1 (a) 2} 01)").spot, 16)

    def test_drawn_values(self):
        def value(chance, deep):
            draw = chance.random.random()
            if deep == 0 or draw < 0.4:
                return chance.one_of((None, "a", "word9", 0, -12, 10 ** 40, ()))
            if draw < 0.75:
                return tuple(value(chance, deep - 1) for _ in range(chance.random.randint(0, 4)))
            return {tuple(chance.one_of("abc") for _ in range(chance.random.randint(0, 2))): value(chance,
                    deep - 1) for _ in range(chance.random.randint(0, 3))}

        def plainly(one):
            """The text by a second way."""
            if isinstance(one, tuple):
                return "(" + " ".join(map(plainly, one)) + ")"
            if isinstance(one, dict):
                return "{" + " ".join(plainly(part) for key in sorted(one) for part in (key, one[key])) + "}"
            return "-" if one is None else str(one)
        for seed in range(400):
            chance = Chance(f"plain {seed}")
            one = value(chance, 5)
            text = write_plain(one)
            self.assertEqual((text, read_plain(text)), (plainly(one), one))
            # no beginning of it but itself is a text, unless the last number or word is only longer
            for cut in range(len(text)):
                error = raised(read_plain, text[:cut])
                if text[0] in "({":
                    self.assertEqual((type(error), error.spot), (ParseError, cut))

    def test_changed_texts_are_read_as_written_or_not_at_all(self):
        read = 0
        for seed in range(1500):
            chance = Chance(f"changed plain {seed}")
            text = "(a 3 - {(b) (1 2) (b c) ()} -40 {})"
            at = chance.random.randrange(len(text))
            text = text[:at] + chance.one_of(("", "-", "0", "a", " ", "(", ")", "{", "}")) + text[at + chance.random.randint(0, 1):]
            error = raised(read_plain, text)
            if error is None:
                read += 1
                self.assertEqual(write_plain(read_plain(text)), text)
            else:
                self.assertIs(type(error), ParseError)
        self.assertGreater(read, 100)


class Logs(unittest.TestCase, Checks):
    def test_texts(self):
        text = log_text(RULED, 0, ())
        self.assertEqual(text,
                         "(base 0 ((time (jan feb mar) ((year ((all ((jan (1 1)) (feb (1 1)) (mar (1 1)))))))) (shop (a b) ((sums ((both ((a (1 1)) (b (1 1)))))) "
                               "(less ((diff ((a (1 1)) (b (-1 1))))))))) (((- (diff)) (over (at ((shop (to a)))) (at ((shop (to a)) (time (step -1))))) 2)) "
                               "{(feb a) (6 1) (jan a) (4 1) (jan b) (1 2)})\n")
        more = log_text(SOME, 7, ((8, "ann", (PUT, RENAME)), (9, "bob", (("rules", ()),))))
        self.assertEqual(more.split("\n")[1:], ["(commit 8 ann ((cells {(jan b) - (mar a) (1 1)}) (edits ((rename shop a z)))))",
                                                "(commit 9 bob ((rules ())))", ""])
        self.assertEqual(read_log(more), (SOME, 7, ((8, "ann", (PUT, RENAME)), (9, "bob", (("rules", ()),))), len(more)))

    def test_what_stands_behind_the_last_newline_is_left_out(self):
        text = log_text(SOME, 0, ((1, "ann", (PUT,)), (2, "bob", (RENAME,))))
        lines = text.split("\n")
        ends = [len(lines[0]) + 1, len(lines[0]) + len(lines[1]) + 2, len(text)]
        for cut in range(len(text) + 1):
            whole = sum(end <= cut for end in ends)
            if whole == 0:
                self.assertEqual(self.assert_raises(ParseError, read_log, text[:cut]).spot, 0)
            else:
                cube, number, commits, many = read_log(text[:cut])
                self.assertEqual((cube, number, len(commits), many), (SOME, 0, whole - 1, ends[whole - 1]))
        self.assertEqual(read_log(text + "rubbish")[3], len(text))
        self.assertEqual(self.assert_raises(ParseError, read_log, text + "rubbish\n").spot, 3)

    def test_lines_that_are_wrong(self):
        text = log_text(SOME, 4, ((5, "ann", (PUT,)), (6, "bob", (("cells", {JAN_A: ONE}),)), (7, "bob", (("rules", (GROWTH,)),))))
        lines = text.split("\n")[:-1]

        def spot(*told):
            return self.assert_raises(ParseError, read_log, "".join(line + "\n" for line in told)).spot
        self.assertEqual(read_log(lines[0] + "\n" + lines[1] + "\n")[2], ((5, "ann", (PUT,)),))
        self.assertEqual(spot(lines[0], lines[2]), 1)
        self.assertEqual(spot(lines[0], lines[1], lines[1]), 2)
        self.assertEqual(spot(lines[0], lines[2], lines[1]), 1)
        self.assertEqual(spot(lines[0], lines[1], lines[0]), 2)
        self.assertEqual(spot(lines[1]), 0)
        self.assertEqual(spot(lines[0], lines[1], ""), 2)
        self.assertEqual(spot("", *lines), 0)
        self.assertEqual(spot(lines[0] + " ", *lines[1:]), 0)
        for value in odd_values():
            if type(value) is not str:
                self.assertIsNone(self.assert_raises(ParseError, read_log, value).spot)
        for wrong in ("", "x", "-", "(base 4)", "x\n", "\n"):
            self.assertEqual(self.assert_raises(ParseError, read_log, wrong).spot, 0)

    def test_bases_that_are_wrong(self):
        line = log_text(RULED, 4, ())
        for old, new in (("(base", "(bass"), ("base 4", "base -4"), ("base 4", "base a"), ("base 4", "base -"),
                         ("base 4", "base 4 5"), ("(jan feb mar)", "(jan jan mar)"),
                         ("(time (jan", "(shop (jan"), ("{(feb a) (6 1)", "{(feb a) (6 6)"), ("{(feb a) (6 1)", "{(feb a) 6"),
                         ("(feb a) (6 1)", "(feb both) (6 1)"), ("(feb a) (6 1)", "(feb) (6 1)"),
                         ("(diff)) (over", "(diffs)) (over"), ("(step -1)", "(step 0)"), (") 2))", ") 100))"), (") 2))", "))))"),
                         ("{(feb a) (6 1) (jan a) (4 1) (jan b) (1 2)}", "-"),
                         ("{(feb a) (6 1) (jan a) (4 1) (jan b) (1 2)}", "()"), ("(6 1)", f"({10 ** 18} 1)"), ("(6 1)", "-"),
                         ("(1 1)) (feb", "(0 1)) (feb")):
            self.assertIn(old, line)
            self.assertEqual(self.assert_raises(ParseError, read_log, line.replace(old, new, 1)).spot, 0, (old, new))
        self.assertEqual(read_log(line.replace("base 4", "base " + "9" * 60))[1], nines(60))
        cells = "{(a x) (1 1)}"
        sides = "((p (a) ()) (q (x) ()))"
        self.assertEqual(read_log(f"(base 0 {sides} () {cells})\n")[0].cells, {("a", "x"): ONE})
        for wrong in ("(base)", "(base 0)", f"(base 0 {sides} ())", f"(base 0 {sides} () {cells} ())", f"(base -1 {sides} () {cells})",
                      f"(base 0 - () {cells})", f"(base 0 p () {cells})", f"(base 0 5 () {cells})", f"(base 0 {{}} () {cells})", f"(base 0 (p q) () {cells})",
                      f"(base 0 (5 - ()) () {cells})", f"(base 0 ((p (a)) (q (x))) () {cells})", f"(base 0 () () {cells})", f"(base 0 {sides} - {cells})",
                      f"(base 0 {sides} x {cells})", f"(base 0 {sides} 7 {cells})", f"(base 0 {sides} {{}} {cells})", f"(base 0 {sides} (-) {cells})",
                      f"(base 0 {sides} ((- - -)) {cells})", f"(base 0 {sides} (((- -) (nothing) -)) {cells})", f"(base 0 {sides} () x)", f"(base 0 {sides} () 4)"):
            self.assertEqual(self.assert_raises(ParseError, read_log, wrong + "\n").spot, 0, wrong)

    def test_commits_that_are_wrong(self):
        base = log_text(RULED, 0, ())
        for commit in ("(commit 2 ann ((rules ())))", "(commit 1 Ann ((rules ())))", "(commit 1 ann ())",
                       "(commit 1 ann (rules ()))", "(commit 1 ann ((rules -)))", "(commit 1 ann ((cells ())))",
                       "(commit 1 ann ((cells {(jan c) (1 1)})))", "(commit 1 ann ((edits ((drop shop c)))))",
                       "(commit 1 ann ((edits ((drop shop a)))))", "(commit 1 ann ((edits (drop shop a))))",
                       "(commit - ann ((rules ())))", "(commit 1 - ((rules ())))", "(commit 1 ann -)",
                       "(commit 1 ann ((rules ())) 2)", "(commits 1 ann ((rules ())))", "(commit 1 longer9ame ((rules ())))",
                       "(commit 1 ann ((rules ()) (rules ()) (rules ()) (rules ()) (rules ()) (rules ())))",
                       "(commit 1 ann ((rules (((- -) (at ()) 100)))))", "(commit 1 ann ((rules (((- -) (at ()))))))",
                       "(commit 1 ann ((rules (((- (c)) (at ()) 1)))))", "(commit 1 ann ((rule ())))",
                       "(commit 1 ann ((cells {(jan a) (2 2)})))", "(1 ann ((rules ())))", "(commit 1 ann {})", "(commit 1 ann (-))",
                       "(commit 1 ann (4))", "(commit 1 ann ({}))", "(commit 1 ann (rules))", "(commit 1 ann (()))", "(commit 1 ann ((rules)))",
                       "(commit 1 ann ((rules x)))", "(commit 1 ann ((rules 4)))", "(commit 1 ann ((rules (x))))", "(commit 1 ann x)", "(commit)",
                       "(commit 1)", "-", "7", "commit"):
            self.assertEqual(self.assert_raises(ParseError, read_log, base + commit + "\n").spot, 1, commit)
        right = "(commit 1 ann ((rules (((- -) (at ()) 1)))))"
        self.assertEqual(len(read_log(base + right + "\n")[2]), 1)
        self.assertEqual(len(read_log(base + "(commit 1 ann ((rules ()) (rules ()) (rules ()) (rules ()) (rules ())))\n")[2]), 1)

    def test_a_cell_too_many(self):
        from test_line import wide
        cube, places = wide(300)
        text = log_text(cube, 0, ())
        self.assertEqual(read_log(text)[0], cube)
        line = write_plain(("commit", 1, "ann", (("cells", {places[300]: (1, 1)}),))) + "\n"
        self.assertEqual(self.assert_raises(ParseError, read_log, text + line).spot, 1)

    def test_wrong_arguments(self):
        for value in odd_values():
            if value is not SOME:
                self.assert_raises(InvalidCube, log_text, value, None, None)
            if not (type(value) is int and 0 <= value < 10 ** 60):
                self.assertIs(self.assert_raises(InvalidNumber, log_text, SOME, value, None).given, value)
            if value != ():
                self.assert_raises(InvalidOperation, log_text, SOME, 0, value)
        commit = (1, "ann", (PUT,))
        for commits in ([commit], ((2, "ann", (PUT,)),), ((0, "ann", (PUT,)),), ((True, "ann", (PUT,)),), ((1, "Ann", (PUT,)),),
                        ((1, "ann", ()),), ((1, "ann", (PUT,) * 6),), (commit, commit),
                        ((1, "ann", PUT),), ([1, "ann", (PUT,)],), ((1, "ann"),), (commit + (1,),), ((1, "ann", (RENAME, PUT)),),
                        ((1, "ann", (("edits", (("drop", "shop", "x"),)),)),),
                        (commit, None), (commit, (3, "ann", (PUT,)))):
            self.assert_raises(InvalidOperation, log_text, SOME, 0, commits)
        hundred = tuple((number, "ann", (PUT,)) for number in range(1, 102))
        self.assertEqual(len(read_log(log_text(SOME, 0, hundred[:100]))[2]), 100)
        self.assert_raises(InvalidOperation, log_text, SOME, 0, hundred)
        self.assert_raises(InvalidOperation, log_text, SOME, nines(60), ((10 ** 60, "ann", (PUT,)),))
        self.assertEqual(read_log(log_text(SOME, nines(60) - 1, ((nines(60), "ann", (PUT,)),)))[1], nines(60) - 1)

    def test_nothing_is_shared(self):
        changes = {MAR_A: ONE}
        text = log_text(SOME, 0, ((1, "ann", (("cells", changes),)),))
        read = read_log(text)
        read[2][0][2][0][1].clear()
        self.assertEqual((changes, read_log(text)[2]), ({MAR_A: ONE}, ((1, "ann", (("cells", {MAR_A: ONE}),)),)))

    def test_drawn_logs(self):
        whole = 0
        for seed in range(150):
            chance = Chance(f"log {seed}")
            line = Line(chance.cube())
            for _ in range(chance.random.randint(0, 6)):
                raised(line.commit, chance.one_of(("ann", "bob")), tuple(a_deed(chance,
                        line.cube) for _ in range(chance.random.randint(1, 3))))
            number = chance.random.randint(0, 1000)
            commits = tuple((number + at, author, deeds) for at, author, deeds in line.commits)
            text = log_text(line.at(0), number, commits)
            self.assertEqual(read_log(text), (line.at(0), number, commits, len(text)))
            whole += len(commits)
            # a spoilt sign makes its line wrong, or another line that is right
            at = chance.random.randrange(len(text))
            spoilt = text[:at] + chance.one_of("aZ(9 -)\n") + text[at + 1:]
            error = raised(read_log, spoilt)
            index = text[:at].count("\n")
            if error is not None:
                # The fault may show only later, as that of deeds which cannot be done any more.
                self.assertIs(type(error), ParseError)
                self.assertGreaterEqual(error.spot, index)
            else:
                cube, read_number, read_commits, many = read_log(spoilt)
                self.assertEqual(log_text(cube, read_number, read_commits), spoilt[:many])
        self.assertGreater(whole, 200)

    def test_ruled_cubes_are_read_as_they_were(self):
        for cube in (RULED, LOOP, Cube(FLAT)):
            self.assertEqual(read_log(log_text(cube, 3, ()))[:3], (cube, 3, ()))


if __name__ == "__main__":
    unittest.main()
