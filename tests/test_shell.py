import re
import unittest

from sumstead.ask.sets import read_question, write_question
from sumstead.ask.sheets import Sheet
from sumstead.base.worths import is_name, read_worth, worth_text
from sumstead.errors import CubeError, InvalidNumber, InvalidOperation, NothingToUndo, ParseError, Refused, TooMany, UnknownName
from sumstead.hands.line import Line
from sumstead.hands.sandboxes import Sandbox
from sumstead.outline.outlines import Outline, Side
from sumstead.plain.cubes import Cube
from sumstead.plain.rules import Rule
from sumstead.text import shell as module
from sumstead.text.rules import read_rule, write_rule
from sumstead.text.shell import Shell
from sumstead.write.spreads import spread

from chance import Chance
from examples import HERE, LOOP, ONE, RULED, SOME, Checks, number, odd_values
from test_line import wide

WORDS = ("as", "back", "commit", "drop", "forward", "norule", "put", "renew", "rule", "sheet", "spread", "tell", "who")


def shell_of(cube=SOME):
    return Shell(Line(cube))


class Shells(unittest.TestCase, Checks):
    def test_constants(self):
        self.assertEqual((module.MAX_LINE, module.SHELL_WORDS), (2000, WORDS))

    def test_the_example(self):
        shell = Shell(Line(SOME))
        self.assertEqual(shell.run(("tell all both", "put mar b = 5/2", "tell mar both", "as ann", "tell mar both", "as me",
                                    "commit", "as ann", "renew", "tell mar both")),
                         ("21/2", "ok", "5/2", "ann on 0", "nothing", "me on 0", "1", "ann on 0", "1", "5/2"))

    def test_properties(self):
        line = Line(SOME)
        line.commit("eve", (("cells", {}),))
        shell = Shell(line)
        self.assertEqual((shell.author, shell.authors, shell.cube, shell.said, len(shell), str(shell)),
                         ("me", ("me",), SOME, 0, 1, "shell of 1 authors, at 1"))
        shell.run(("as zoe", "as ann", "put jan a = 1", "", "rubbish"))
        self.assertEqual((shell.author, shell.authors, shell.cube.cells[("jan", "a")], shell.said, len(shell), str(shell)),
                         ("ann", ("ann", "me", "zoe"), ONE, 5, 3, "shell of 3 authors, at 1"))
        self.assertTrue("zoe" in shell and "me" in shell)
        self.assertRaises(TypeError, iter, shell)
        for value in odd_values() + ["eve", ("me",)]:
            self.assertFalse(value in shell)
            self.assertFalse(shell == value)

    def test_the_line_is_kept_itself(self):
        line = Line(SOME)
        shell = Shell(line)
        shell.run(("put jan a = 9", "commit"))
        self.assertEqual((line.present, line.commits), (1, ((1, "me", (("cells", {("jan", "a"): (9, 1)}),)),)))
        line.commit("eve", (("cells", {("jan", "a"): None}),))
        self.assertEqual((shell.say("renew"), shell.say("tell jan a"), str(shell)), ("2", "nothing", "shell of 1 authors, at 2"))

    def test_wrong_arguments(self):
        shell = shell_of()
        for value in odd_values():
            self.assert_raises(InvalidOperation, Shell, value)
            if type(value) is not str or len(value) > 2000 or "\n" in value or "\t" in value:
                self.assert_raises(InvalidOperation, shell.say, value)
            if value not in ((), ("1", "1")):
                self.assert_raises(InvalidOperation, shell.run, value)
        for text in ("who\n", "\twho", "who\x7f", " " * 2001):
            self.assert_raises(InvalidOperation, shell.say, text)
            self.assert_raises(InvalidOperation, shell.run, ("put jan a = 9", text))
        for texts in (["who"], "who", ("who",) * 101, ("who", None)):
            self.assert_raises(InvalidOperation, shell.run, texts)
        self.assertEqual((shell_of().said, shell.cube), (0, SOME))
        shell = shell_of()
        self.assertEqual((shell.run(("who",) * 100), shell.run(())), (("me",) * 100, ()))
        self.assertEqual((shell.say("who" + " " * 1997), shell.said), ("me", 101))
        self.assertEqual(shell.say(" " * 2000), "")

    def test_telling(self):
        shell = shell_of(RULED)
        self.assertEqual(shell.run(("tell feb diff", "tell jan diff", "tell mar both", "tell  all   both  ")),
                         ("3/2", "nothing", "nothing", "21/2"))
        self.assertEqual(shell_of(LOOP).say("tell jan both"), "#ring of jan b; jan both")
        zero = SOME.with_rules((Rule((("jan",), ("diff",)), ("over", number(1), number(0))),))
        self.assertEqual(shell_of(zero).say("tell all diff"), "#zero at jan diff")
        self.assertEqual(shell_of(SOME.with_cells({("jan", "a"): (-3, 7)})).say("tell jan a"), "-3/7")

    def test_great_answers(self):
        names = tuple(f"n{n}" for n in range(30))
        cube = Cube(Outline((Side("s", names),)), (Rule((None,), ("times", ("at", (("s", ("step", -1)),)),
                                                                  ("worth", (10 ** 59, 1))), 1), Rule((("n0",),), number(10 ** 59), 2)))
        shell = shell_of(cube)
        self.assertEqual((shell.say("tell n1"), shell.say("tell n20"), shell.say("tell n15")),
                         ("1" + "0" * 118, "#great at n16", "1" + "0" * 944))

    def test_putting(self):
        shell = shell_of()
        self.assertEqual(shell.run(("put jan a = 4/6", "put feb a = nothing", "put mar b = -1/2", "put mar a = 0/5")), ("ok",) * 4)
        self.assertEqual(shell.cube.cells, {("jan", "a"): (2, 3), ("jan", "b"): (1, 2), ("mar", "a"): (0, 1), ("mar", "b"): (-1, 2)})
        for text, answer in (("put jan a = 1/1001", "invalid"), ("put jan both = 1", "invalid"), ("put jan c = 1", "invalid"),
                             ("put a jan = 1", "invalid"), ("put jan a = " + "9" * 19, "invalid"),
                             ("put jan a = 01", "wrong at 12"), ("put jan a = 1/0", "wrong at 12"),
                             ("put jan a = x", "wrong at 12"), ("put jan a = -0", "wrong at 12"),
                             ("put jan a = " + "9" * 61, "wrong at 12"),
                             ("put jan a = nothin", "wrong at 12"), ("put jan a =1", "wrong at 10"), ("put jan a=1", "wrong at 8"),
                             ("put jan a", "wrong at 9"), ("put jan a =", "wrong at 11"),
                             ("put jan a 1", "wrong at 10"), ("put jan = 1", "wrong at 8"), ("put jan a b = 1", "wrong at 10"),
                             ("put jan a = 1 2", "wrong at 14"), ("put", "wrong at 3"),
                             ("put  ", "wrong at 5"), ("put A a = 1", "wrong at 4"), ("put jan a = 1 ", "ok")):
            self.assertEqual(shell.say(text), answer, text)

    def test_spreading(self):
        shell = shell_of()
        self.assertEqual(shell.run(("spread all a = 7 own", "tell jan a", "tell mar a", "spread all both = 8 even", "tell mar b")),
                         ("3", "3", "nothing", "6", "1"))
        for text, answer in (("spread all diff = 7 even", "refused weight"), ("spread all a = 1/2 even", "refused unit"),
                             ("spread all a = nothing even", "invalid"), ("spread all x = 1 even", "invalid"),
                             ("spread all a = 7 like", "wrong at 17"), ("spread all a = 7", "wrong at 16"),
                             ("spread all a = 7 own own", "wrong at 21"), ("spread all a = x own", "wrong at 15"),
                             ("spread all a = 9999999999999999 own", "invalid"), ("spread all a = 1/1001 own", "invalid"),
                             ("spread all = 1 own", "wrong at 11"), ("spread", "wrong at 6")):
            self.assertEqual(shell.say(text), answer, text)
        self.assertEqual(shell_of(Cube(SOME.outline)).say("spread all a = 7 own"), "refused empty")
        self.assertEqual(shell_of(SOME.with_cells({("jan", "a"): (-1, 1)})).say("spread all a = 7 own"), "refused below")
        self.assertEqual(shell_of(SOME.with_rules((Rule((("mar",), ("a",)), HERE),))).say("spread all a = 7 even"), "refused rule")

    def test_too_many(self):
        cube, places = wide(300)
        shell = shell_of(cube)
        self.assertEqual(shell.say(f"put {' '.join(places[300])} = 1"), "too many 300")
        names = tuple(f"n{n}" for n in range(11))
        side = tuple(Side(name, names, (("h", (("all", tuple((one, ONE) for one in names)),)),)) for name in "pqr")
        self.assertEqual(shell_of(Cube(Outline(side))).say("spread all all all = 5 even"), "too many 1000")
        self.assertEqual(shell_of(Cube(Outline(side))).say("spread all all n0 = 5 even"), "121")
        line = Line(SOME)
        for _ in range(100):
            line.commit("eve", (("cells", {}),))
        shell = Shell(line)
        self.assertEqual(shell.run(("put jan a = 1", "commit", "back", "commit", "renew", "commit")),
                         ("ok", "too many 100", "99", "refused adrift", "99", "100"))

    def test_rules(self):
        shell = shell_of()
        self.assertEqual(shell.run(("rule 2 (shop: diff) = [shop to a] / [shop to a, time step -1]", "tell feb diff",
                                    "rule 0 () = 1/3 ", "tell jan a", "norule 0", "tell feb diff")),
                         ("rule 0", "3/2", "rule 1", "1/3", "ok", "1/3"))
        self.assertEqual(shell.cube.rules, (Rule((None, None), ("worth", (1, 3))),))
        for text, answer in (("rule", "wrong at 4"), ("rule   ", "wrong at 7"), ("rule 1 (shop: diff) = [shop too a]",
                "wrong at 28"), ("rule 1 (shop: diff) = ", "wrong at 22"), ("rule x", "wrong at 5"),
                             ("  rule  1 () = 1 2", "wrong at 17"), ("rule 1 (shop: c) = 1", "invalid"),
                             ("rule 100 () = 1", "invalid"), ("rule 1 () = [shop to c]", "invalid"),
                             ("rule 1 (shop: a, shop: b) = 1", "invalid"),
                             ("rule 1 () = 1/0", "wrong at 14"), ("norule", "wrong at 6"), ("norule x", "wrong at 7"),
                             ("norule 00", "wrong at 7"), ("norule 01", "wrong at 7"), ("norule 100", "wrong at 7"),
                             ("norule -1", "wrong at 7"), ("norule 0 0", "wrong at 9"), ("norule 1", "invalid"),
                             ("norule 99", "invalid"), ("norule 0", "ok"), ("norule 0", "invalid")):
            self.assertEqual(shell.say(text), answer, text)
        for index in range(30):
            self.assertEqual(shell.say("rule 0 (shop: a) = 1"), f"rule {index}")
        self.assertEqual(shell.say("rule 0 (shop: a) = 1"), "invalid")
        self.assertEqual((shell.say("norule 29"), shell.say("norule 29"), len(shell.cube.rules)), ("ok", "invalid", 29))

    def test_sheets(self):
        shell = shell_of(RULED)
        expected = "\n".join(Sheet(RULED, ("jan", "a"), ("time", ("all",)), ("shop", ("members", ("a", "diff")))).lines)
        self.assertEqual(shell.say("sheet time all / shop members(a, diff) / jan a"), expected)
        self.assertEqual(shell.say("sheet  shop filter(leaves,there([time to mar]))/ / time all / jan a"), "wrong at 47")
        for text, answer in (("sheet", "wrong at 5"), ("sheet time", "wrong at 10"),
                             ("sheet time / shop all / jan a", "wrong at 11"), ("sheet time all", "wrong at 14"),
                             ("sheet time all shop", "wrong at 15"),
                             ("sheet time all /", "wrong at 16"), ("sheet time all / shop", "wrong at 21"),
                             ("sheet time all / shop / jan a", "wrong at 22"), ("sheet time all / shop all", "wrong at 25"),
                             ("sheet time all / shop all /", "wrong at 27"), ("sheet time all / shop all / jan", "wrong at 31"),
                             ("sheet time all / shop all / jan a b", "wrong at 34"),
                             ("sheet time order(all / shop all / jan a", "wrong at 21"),
                             ("sheet / all / shop all / jan a", "wrong at 6"), ("sheet time all / shop al / jan a", "wrong at 22"),
                             ("sheet time all/ shop all / jan a", "wrong at 14"),
                             ("sheet months all / shop all / jan a", "invalid"), ("sheet time all / time all / jan a", "invalid"),
                             ("sheet time all / shop members(c) / jan a", "invalid"),
                             ("sheet time all / shop all / jan c", "invalid"), ("sheet time members(a, a) / shop al / jan a",
                                     "wrong at 32"),
                             ("sheet time members(a, a) / shop all / jan a", "invalid"),
                             ("sheet time first(all, 0) / shop all / jan", "wrong at 41")):
            self.assertEqual(shell.say(text), answer, text)
        zero = SOME.with_rules((Rule((("jan",), ("diff",)), ("over", number(1), number(0))),))
        self.assertEqual(shell_of(zero).say("sheet time order(all, [shop to diff], up) / shop all / jan a"), "refused zero")
        self.assertEqual(shell_of(LOOP).say("sheet time all / shop filter(all, there([])) / jan a"), "refused ring")
        self.assertEqual(shell.say("sheet time first(all, 1) / shop filter(leaves, 5<[]) / feb a"), "     a\njan  4")
        # what a sheet shows is not asked of the sandbox
        shell.run(("put mar a = 1", "as bob", "put jan a = 5", "commit", "as me"))
        self.assertEqual(shell.say("commit"), "2")

    def test_a_sheet_that_is_too_large(self):
        names = tuple(f"n{n}" for n in range(30))
        trees = tuple((f"h{at}", tuple((f"g{at}{n}", ((f"g{at}{n + 1}", ONE),)) for n in range(5)) + ((f"g{at}5", (("n0", ONE),)),
                )) for at in range(3))
        cube = Cube(Outline((Side("p", names, trees), Side("q", names, trees))))
        shell = shell_of(cube)
        self.assertEqual(shell.say("sheet p all / q all / n0 n0"), "too many 2000")
        self.assertEqual(shell.say("sheet p leaves / q leaves / n0 n0").count("\n"), 30)

    def test_authors(self):
        shell = shell_of()
        self.assertEqual(shell.run(("who", "as bob", "who", "put jan a = 1", "commit", "as ann", "as bob", "as me", "who",
                                    "as tell", "as me")),
                         ("me", "bob on 0", "bob me", "ok", "1", "ann on 1", "bob on 1", "me on 0", "ann bob me", "tell on 1", "me on 0"))
        for text, answer in (("as", "wrong at 2"), ("as Bob", "wrong at 3"), ("as longer9ame", "wrong at 3"),
                             ("as bob bob", "wrong at 7"), ("as 1a", "wrong at 3"), ("as =", "wrong at 3"), ("who me", "wrong at 4")):
            self.assertEqual((shell.say(text), shell.author), (answer, "me"))
        self.assertEqual(shell.authors, ("ann", "bob", "me", "tell"))

    def test_commits_and_the_way_back(self):
        shell = shell_of()
        self.assertEqual(shell.run(("commit", "back", "forward", "put jan a = 1", "commit", "back", "back", "forward", "forward",
                                    "put jan b = 2", "back", "commit", "renew", "commit", "drop", "commit")),
                         ("refused empty", "no more", "no more", "ok", "1", "0", "no more", "1", "no more", "ok", "0",
                          "refused adrift", "0", "1", "ok", "refused empty"))
        shell = shell_of()
        self.assertEqual(shell.run(("tell jan a", "put jan b = 2", "as ann", "put jan a = 7", "commit", "as me", "commit", "drop",
                                    "commit", "tell jan a", "tell jan b")),
                         ("4", "ok", "ann on 0", "ok", "1", "me on 0", "refused cell", "ok", "refused empty", "7", "1/2"))
        shell.run(("put mar a = 1", "tell jan a", "as ann", "rule 1 () = 1", "commit", "as me"))
        self.assertEqual(shell.say("commit"), "refused rules")
        for word in ("commit", "renew", "drop", "back", "forward", "who"):
            self.assertEqual(shell.say(f"{word} x"), f"wrong at {len(word) + 1}")
        # a changed outline
        line = Line(SOME)
        shell = Shell(line)
        shell.say("put jan a = 1")
        line.commit("eve", (("edits", (("add", "shop", "c"),)),))
        self.assertEqual(shell.run(("commit", "renew", "drop", "put jan c = 3", "commit")),
                         ("refused outline", "refused outline", "ok", "ok", "2"))

    def test_what_is_not_done_has_no_effect(self):
        shell = shell_of(RULED)
        shell.run(("put mar a = 1", "rule 0 (shop: b) = 2"))
        twin = shell_of(RULED)
        twin.run(("put mar a = 1", "rule 0 (shop: b) = 2"))
        for text in ("as", "as Bob", "tell jan", "tell jan c", "put jan a = x", "put jan both = 1", "spread all diff = 1 even",
                     "rule 1 () = ", "rule 1 (shop: c) = 1", "norule 9", "sheet time all", "Tell jan a",
                     "sheet time all / time all / jan a", "renew 1", "back", "forward", "commit it", "=", "/", "tel jan a", "told",
                     "rule1 () = 1"):
            self.assertTrue(shell.say(text).startswith(("wrong at ", "invalid", "refused ", "no more")), text)
            self.assertEqual((shell.author, shell.authors, shell.cube), (twin.author, twin.authors, twin.cube))
        self.assertEqual((shell.say("commit"), shell.cube), ("1", twin.cube))

    def test_words(self):
        shell = shell_of()
        for text, answer in (("x", "wrong at 0"), ("   x tell", "wrong at 3"), ("tells jan a", "wrong at 0"),
                             ("TELL jan a", "wrong at 0"), ("  tell jan a", "4"), ("t ell jan a", "wrong at 0"), ("", ""), ("      ", "")):
            self.assertEqual(shell.say(text), answer, text)

    def test_names_that_are_words(self):
        side = Side("tell", ("put", "rule", "if", "to"), (("as", (("sum", (("put", ONE), ("rule", ONE))),)),))
        other = Side("sheet", ("commit", "nothing", "all"))
        cube = Cube(Outline((side, other)), (), {("put", "commit"): (2, 1), ("rule", "commit"): (3, 1)})
        shell = shell_of(cube)
        self.assertEqual(shell.run(("tell sum commit", "put rule nothing = nothing", "put to nothing = 4", "tell to nothing",
                                    "spread sum all = 3 even", "as as", "as nothing", "as me",
                                    "sheet tell members(put, sum) / sheet leaves / if commit", "rule 3 (tell: if) = [tell to to]",
                                    "tell if nothing")),
                         ("5", "ok", "ok", "4", "2", "as on 0", "nothing on 0", "me on 0",
                          "     commit  nothing  all\nput  2       -        2\nsum  5       -        3", "rule 0", "4"))

    def test_blanks_everywhere(self):
        shell = shell_of()
        self.assertEqual(shell.run(("   put   jan   a   =   3/6   ", "  tell jan    a ", " rule   1   (  )=1  ", "  norule    0  ",
                                    "  sheet   time  leaves   /   shop  leaves  /  jan  a ", "  as   bob  ")),
                         ("ok", "1/2", "rule 0", "ok", "     a    b\njan  1/2  1/2\nfeb  6    -\nmar  -    -", "bob on 0"))


class Second:
    """What a shell should answer, by the same calls of a line and of sandboxes; the texts are taken apart by a table."""

    def __init__(self, line):
        self.line, self.author = line, "me"
        self.boxes = {"me": Sandbox(line, "me")}

    def box(self):
        return self.boxes[self.author]

    def fault(self, text):
        """The index of the first piece that cannot stand, or None; and the parts."""
        pieces = [(found.start(), found.group()) for found in re.finditer("[^ ]+", text)] + [(len(text), None)]
        if pieces[0][1] not in WORDS:
            return pieces[0][0], None
        word = pieces[0][1]
        many = len(self.line.cube.outline)
        kinds = {"as": "n", "tell": "n" * many, "put": "n" * many + "=w", "spread": "n" * many + "=wy", "rule": "R", "norule": "d",
                 "sheet": "nQ/nQ/" + "n" * many}.get(word, "")
        parts, at = [], 1
        for kind in kinds + "$":
            begin, piece = pieces[at]
            if kind in "QR":
                end = at
                while pieces[end][1] is not None and (kind == "R" or pieces[end][1] != "/"):
                    end += 1
                try:
                    part = text[begin:pieces[end][0]]
                    read_rule(self.box().cube.outline, part) if kind == "R" else read_question(part)
                except ParseError as wrong:
                    return begin + wrong.spot, None
                except CubeError:
                    pass
                parts.append(part)
                at = end
                continue
            if not self.can_stand(kind, piece):
                return begin, None
            parts.append(piece)
            at += 1
        return None, parts

    def can_stand(self, kind, piece):
        if kind == "$" or piece is None:
            return kind == "$" and piece is None
        if kind == "n":
            return is_name(piece)
        if kind == "w":
            try:
                read_worth(piece)
                return True
            except ParseError:
                return False
        if kind == "d":
            return re.fullmatch("0|[1-9][0-9]?", piece) is not None
        return piece in ("even", "own") if kind == "y" else piece == kind

    def say(self, text):
        if not text.strip():
            return ""
        at, parts = self.fault(text)
        if at is not None:
            return f"wrong at {at}"
        word = text.split()[0]
        try:
            return getattr(self, "do_" + word)(parts)
        except Refused as refusal:
            return f"refused {refusal.reason[0]}"
        except TooMany as bound:
            return f"too many {bound.limit}"
        except NothingToUndo:
            return "no more"
        except (CubeError, InvalidNumber, UnknownName):
            return "invalid"

    def do_as(self, parts):
        self.author = parts[0]
        if self.author not in self.boxes:
            self.boxes[self.author] = Sandbox(self.line, self.author)
        return f"{self.author} on {self.box().base}"

    def do_tell(self, parts):
        word, *told = self.box().answer(tuple(parts[:-1]))
        if word != "refused":
            return worth_text(told[0]) if told else "nothing"
        word, where = told[0]
        places = [" ".join(place) for place in (where if word == "ring" else [where])]
        return ("#ring of " if word == "ring" else f"#{word} at ") + "; ".join(places)

    def do_put(self, parts):
        self.box().write({tuple(parts[:-3]): read_worth(parts[-2])})
        return "ok"

    def do_spread(self, parts):
        changes = spread(self.box().cube, tuple(parts[:-4]), read_worth(parts[-3]), (parts[-2],))
        self.box().write(changes)
        return str(len(changes))

    def do_rule(self, parts):
        rules = self.box().cube.rules
        self.box().put_rules(rules + (read_rule(self.box().cube.outline, parts[0]),))
        return f"rule {len(rules)}"

    def do_norule(self, parts):
        rules = list(self.box().cube.rules)
        if int(parts[0]) >= len(rules):
            return "invalid"
        del rules[int(parts[0])]
        self.box().put_rules(tuple(rules))
        return "ok"

    def do_sheet(self, parts):
        rows, columns = (parts[0], read_question(parts[1])), (parts[3], read_question(parts[4]))
        return "\n".join(Sheet(self.box().cube, tuple(parts[6:-1]), rows, columns).lines)

    def do_commit(self, parts):
        return str(self.box().commit())

    def do_renew(self, parts):
        return str(self.box().renew())

    def do_drop(self, parts):
        self.boxes[self.author] = Sandbox(self.line, self.author)
        return "ok"

    def do_back(self, parts):
        return str(self.line.back())

    def do_forward(self, parts):
        return str(self.line.forward())

    def do_who(self, parts):
        return " ".join(sorted(self.boxes))


class Drawn(unittest.TestCase, Checks):
    def text(self, chance, cube):
        outline = cube.outline
        place = " ".join(chance.one_of(outline.places()))
        word = chance.one_of(WORDS + ("tell", "put", "commit", "as", "renew"))
        if word == "as":
            return "as " + chance.one_of(("me", "ann", "bob"))
        if word == "tell":
            return f"tell {place}"
        if word in ("put", "spread"):
            leaf = " ".join(chance.one_of(outline.leaf_places())) if word == "put" else place
            worth = chance.one_of(("nothing", worth_text(chance.worth()), str(chance.random.randint(0, 9))))
            return f"{word} {leaf} = {worth}" + (f" {chance.one_of(('even', 'own'))}" if word == "spread" else "")
        if word == "rule":
            rule = Rule(chance.area(outline), chance.formula(outline, 2), chance.random.randint(0, 2))
            return "rule " + write_rule(outline, rule)
        if word == "norule":
            return f"norule {chance.random.randint(0, 3)}"
        if word == "sheet":
            sides = [chance.one_of(outline.sides) for _ in range(2)]
            told = [f"{side.name} {write_question(chance.question(outline, side, 1))}" for side in sides]
            return f"sheet {told[0]} / {told[1]} / {place}"
        return word

    def spoilt(self, chance, text):
        """A text with a piece left out, put in, exchanged or changed."""
        pieces = text.split(" ")
        at = chance.random.randrange(len(pieces))
        draw = chance.random.random()
        if draw < 0.3:
            del pieces[at]
        elif draw < 0.6:
            pieces.insert(at, chance.one_of(("/", "=", "x0", "tell", "1", "all", "(", "nothing", "-", "")))
        elif draw < 0.8:
            other = chance.random.randrange(len(pieces))
            pieces[at], pieces[other] = pieces[other], pieces[at]
        else:
            pieces[at] = pieces[at][:chance.random.randint(0, len(pieces[at]))] + chance.one_of(("", "/", "A", "0", ")"))
        return " ".join(pieces)

    def test_drawn_texts_of_several_authors(self):
        answers = {}
        for seed in range(120):
            chance = Chance(f"shell {seed}")
            cube = chance.cube()
            shell, second = Shell(Line(cube)), Second(Line(cube))
            for count in range(40):
                text = self.text(chance, shell.cube)
                if chance.random.random() < 0.3:
                    text = self.spoilt(chance, text)
                if chance.random.random() < 0.2:
                    text = text.replace(" ", "  ") + " "
                told = shell.say(text)
                self.assertEqual(told, second.say(text), text)
                self.assertEqual((shell.author, shell.authors, shell.cube, shell.said),
                                 (second.author, tuple(sorted(second.boxes)), second.box().cube, count + 1))
                kind = re.sub("[0-9/-]+", "N", told.split(" ")[0])
                answers[kind] = answers.get(kind, 0) + 1
            self.assertEqual(str(shell), f"shell of {len(second.boxes)} authors, at {second.line.present}")
        for kind in ("wrong", "invalid", "refused", "no", "ok", "N", "nothing", "rule", "#ring"):
            self.assertGreater(answers.get(kind, 0), 3, answers)

    def test_asking_is_kept_in_mind(self):
        """Each answer of `tell` counts for the commit, those of `sheet` do not."""
        for text, answer in (("tell jan both", "refused cell"), ("sheet time all / shop all / jan a", "2")):
            shell = shell_of()
            self.assertEqual(shell.run(("put mar a = 1", text, "as ann", "put jan b = 9", "commit", "as me", "commit"))[-1], answer)


if __name__ == "__main__":
    unittest.main()
