"""Each name of the interface stands in the file under which the document lists it, with its arguments."""

import ast
import importlib
import inspect
import unittest

FUNCTIONS = {
    "sumstead.base.worths": {
        "is_worth": "(value)", "is_name": "(value)", "is_cell_worth": "(value)", "is_weight": "(value)",
        "worth": "(top, bottom=1)", "plus": "(one, other)", "minus": "(one, other)", "times": "(one, other)",
        "over": "(one, other)", "weighted_sum": "(pairs)", "is_below": "(one, other)", "is_great": "(worth)",
        "worth_text": "(worth)", "read_worth": "(text)"},
    "sumstead.outline.outlines": {"is_cells": "(outline, value)", "same_places": "(one, other)"},
    "sumstead.plain.formulas": {
        "is_formula": "(value)", "nodes_in": "(formula)", "sides_in": "(formula)", "does_suit": "(outline, value)"},
    "sumstead.plain.weights": {
        "leaf_weights": "(outline, place)", "is_clean": "(cube, place)", "answer_by_leaves": "(cube, place)",
        "answer_by": "(cube, place, order)", "parting_cells": "(one, other, places)",
        "is_parting": "(one, other, places, value)"},
    "sumstead.plain.forms": {
        "is_linear": "(formula)", "form_of": "(cube, place, *, order=None)", "parting_of": "(one, other)",
        "does_part": "(one, other, value)"},
    "sumstead.text.rules": {
        "write_formula": "(formula)", "read_formula": "(text)", "write_rule": "(outline, rule)",
        "read_rule": "(outline, text)"},
    "sumstead.text.outlines": {
        "write_outline": "(outline)", "read_outline": "(text)", "write_cells": "(outline, cells)",
        "read_cells": "(outline, text)"},
    "sumstead.ask.sets": {
        "is_question": "(value)", "does_ask": "(outline, side, value)",
        "members_of": "(cube, place, side, question)", "write_question": "(question)", "read_question": "(text)"},
    "sumstead.ask.sheets": {"with_own": "(cube, side, name, formula, rank=0)"},
    "sumstead.code.making": {"is_code": "(value)", "code_of": "(formula)"},
    "sumstead.code.judge": {
        "is_sound": "(value)", "heights": "(code)", "slots_at": "(code, index)", "needs_of": "(code)"},
    "sumstead.code.passes": {
        "folded": "(code)", "pruned": "(code)", "threaded": "(code)", "shared": "(code)", "passed": "(code, words)"},
    "sumstead.kept.telling": {
        "told": "(outline, place, filling)", "mixture": "(outline, place, seen)",
        "is_mixture": "(outline, place, seen, value)", "unlike_fillings": "(outline, place, seen)",
        "are_unlike_fillings": "(outline, place, seen, value)"},
    "sumstead.kept.marks": {
        "wide_word": "(cube, place, there)", "is_traced": "(cube, place)", "is_enough": "(cube, place, marks)",
        "missed": "(cube, place, marks)", "is_missed": "(cube, place, marks, value)",
        "least_marks": "(cube, place)", "is_least_marks": "(cube, place, value)",
        "answer_marked": "(cube, place, marks)"},
    "sumstead.store.codings": {
        "is_row": "(value)", "codings": "(row)", "coded": "(row)", "decoded": "(text)", "length_of": "(text)",
        "entry_at": "(text, index)", "is_coding": "(row, value)", "changed_at": "(text, index, entry)",
        "joined": "(one, other)"},
    "sumstead.store.blocks": {"store_of_room": "(outline, dense, room, spans)"},
    "sumstead.write.spreads": {
        "parts_of": "(cube, place, way)", "exact_shares": "(cube, place, total, way)",
        "spread": "(cube, place, total, way, *, unit=(1, 1))",
        "is_spread": "(cube, place, total, way, value, *, unit=(1, 1))"},
    "sumstead.hands.line": {"is_deed": "(cube, value)", "cube_behind": "(cube, deed)"},
    "sumstead.hands.sandboxes": {"parting_write": "(one, other)", "are_free": "(one, other)"},
    "sumstead.change.edits": {
        "is_script": "(value)", "edited": "(outline, script)", "carried": "(cube, script)", "table_of": "(outline, script)",
        "are_alike": "(outline, one, other)", "unlike_cells": "(outline, one, other)",
        "is_unlike": "(outline, one, other, value)"},
    "sumstead.right.views": {"cut_outline": "(outline, right)", "cut_cube": "(cube, right)"},
    "sumstead.right.hidden": {
        "told_cell": "(outline, right, leaf_place)", "is_told_cell": "(outline, right, leaf_place, value)",
        "hidden_fillings": "(outline, right, leaf_place)",
        "are_hidden_fillings": "(outline, right, leaf_place, value)", "leaks": "(outline, right)"},
    "sumstead.time.rules": {
        "span_of": "(side, member, span)",
        "to_date": "(outline, time, hierarchy, kind, goal, source, *, rank=50)",
        "over_window": "(outline, time, count, kind, goal, source, *, rank=50)",
        "opening": "(outline, time, kind, goal, source, *, rank=50)",
        "closing": "(outline, time, kind, goal, source, *, rank=50)",
        "rise": "(outline, time, kind, goal, source, *, rank=50)", "with_more": "(cube, rules)"},
    "sumstead.disk.log": {
        "write_plain": "(value)", "read_plain": "(text)", "log_text": "(cube, number, commits)", "read_log": "(text)"},
}

CLASSES = {
    "sumstead.outline.outlines": {
        "Side": ("(name, leaves, hierarchies=())", ("name", "leaves", "hierarchies", "names", "members"),
                 {"children": "(self, member)", "home": "(self, member)", "under": "(self, member)",
                  "parent": "(self, member, hierarchy)", "step": "(self, member, count)",
                  "__contains__": "(self, value)", "__len__": "(self)", "__iter__": "(self)",
                  "__eq__": "(self, other)", "__str__": "(self)"}),
        "Outline": ("(sides)", ("sides", "names", "total"),
                    {"side": "(self, name)", "index": "(self, name)", "has_leaves": "(self, place)",
                     "with_member": "(self, place, name, member)", "places": "(self)", "leaf_places": "(self)",
                     "__contains__": "(self, value)", "__len__": "(self)", "__eq__": "(self, other)",
                     "__str__": "(self)"})},
    "sumstead.plain.rules": {
        "Rule": ("(area, formula, rank=0)", ("area", "formula", "rank"),
                 {"covers": "(self, place)", "suits": "(self, outline)", "__eq__": "(self, other)",
                  "__str__": "(self)"})},
    "sumstead.plain.cubes": {
        "Cube": ("(outline, rules=(), cells=None)", ("outline", "rules", "cells"),
                 {"rule_at": "(self, place)", "answer": "(self, place)", "needs": "(self, place)",
                  "with_cells": "(self, changes)", "with_rules": "(self, rules)", "__contains__": "(self, value)",
                  "__len__": "(self)", "__eq__": "(self, other)", "__str__": "(self)"})},
    "sumstead.plain.forms": {
        "Form": ("(constant, weights, always)", ("constant", "weights", "always"),
                 {"at": "(self, cells)", "__len__": "(self)", "__eq__": "(self, other)", "__str__": "(self)"})},
    "sumstead.ask.sheets": {
        "Sheet": ("(cube, place, rows, columns, *, whole=True)", ("cube", "rows", "columns", "answers", "lines"),
                  {"shown": "(self, row, column)", "answer": "(self, row, column)", "with_cells": "(self, changes)",
                   "unlike": "(self, other)", "__contains__": "(self, value)", "__len__": "(self)",
                   "__iter__": "(self)", "__eq__": "(self, other)", "__str__": "(self)"})},
    "sumstead.code.machine": {
        "Machine": ("(cube, codes=None)", ("cube", "codes", "steps"),
                    {"answer": "(self, place)", "go_on": "(self, place, *, most=1000)", "change": "(self, changes)",
                     "__contains__": "(self, value)", "__len__": "(self)", "__str__": "(self)"})},
    "sumstead.kept.sums": {
        "Kept": ("(cube, places)", ("cube", "kept_places", "sums"),
                 {"change": "(self, changes)", "plan": "(self, place)", "is_plan": "(self, place, value)",
                  "answer": "(self, place)", "count": "(self, place)", "twin": "(self)",
                  "__contains__": "(self, value)", "__len__": "(self)", "__iter__": "(self)",
                  "__eq__": "(self, other)", "__str__": "(self)"})},
    "sumstead.store.blocks": {
        "BlockStore": ("(outline, dense, cells=None)", ("outline", "dense", "room", "spans", "free", "cells"),
                       {"as_cube": "(self, rules=())", "key": "(self, leaf_place)", "seat": "(self, leaf_place)",
                        "row": "(self, key)", "worth_at": "(self, leaf_place)", "put": "(self, leaf_place, entry)",
                        "squeeze": "(self)", "answer": "(self, place, *, keys=None)",
                        "__contains__": "(self, value)", "__len__": "(self)", "__iter__": "(self)",
                        "__eq__": "(self, other)", "__str__": "(self)"})},
    "sumstead.write.totals": {
        "Totals": ("(outline, hierarchies, totals, *, bounds=None, rest=(0, 1000000))",
                   ("outline", "hierarchies", "totals", "bounds", "rest", "grid"),
                   {"pair_at": "(self, leaf_place)", "filling": "(self)", "cut": "(self)",
                    "is_filling": "(self, value)", "is_cut": "(self, value)", "__contains__": "(self, value)",
                    "__len__": "(self)", "__eq__": "(self, other)", "__str__": "(self)"})},
    "sumstead.hands.line": {
        "Line": ("(cube)", ("present", "cube", "commits", "ahead"),
                 {"commit": "(self, author, deeds)", "at": "(self, number)", "changed": "(self, number)",
                  "back": "(self, count=1)", "forward": "(self, count=1)", "compared": "(self, one, other)",
                  "__contains__": "(self, value)", "__len__": "(self)", "__eq__": "(self, other)", "__str__": "(self)"})},
    "sumstead.hands.sandboxes": {
        "Sandbox": ("(line, author)", ("author", "base", "cube", "writes", "rules", "has_read", "has_asked"),
                    {"write": "(self, changes)", "put_rules": "(self, rules)", "answer": "(self, place)",
                     "commit": "(self)", "renew": "(self)", "__len__": "(self)", "__eq__": "(self, other)",
                     "__str__": "(self)"})},
    "sumstead.right.views": {
        "Right": ("(hidden, granted=())", ("hidden", "granted"),
                  {"suits": "(self, outline)", "__eq__": "(self, other)", "__str__": "(self)"}),
        "View": ("(cube, right)", ("cube", "right", "seen"),
                 {"answer": "(self, place)", "__contains__": "(self, value)", "__len__": "(self)",
                  "__eq__": "(self, other)", "__str__": "(self)"})},
    "sumstead.load.loads": {
        "Load": ("(outline, fields, worth_field, rows)",
                 ("outline", "fields", "worth_field", "rows", "refused", "entries", "totals"), {"__eq__": "(self, other)"}),
        "Ledger": ("(cube)", ("first", "cube", "loads", "kept"),
                   {"lay": "(self, load, way='add')", "take_back": "(self, number)", "again": "(self, number)",
                    "down": "(self, place)"})},
    "sumstead.parts.parts": {
        "Parts": ("(cube, name, cuts=())", ("name", "cuts", "stretches", "sent", "oldest", "sure", "rows"),
                  {"send": "(self, changes)", "fetch": "(self, index, count=1)", "follow": "(self, index, count=1)",
                   "fall": "(self, index)", "shift": "(self, index, cut)", "forget": "(self, moment)",
                   "cells_in": "(self, index, moment=None)", "answer": "(self, place, moment=None)", "__len__": "(self)",
                   "__eq__": "(self, other)", "__str__": "(self)"})},
    "sumstead.disk.disk": {
        "Disk": ("(*, power=None)", ("names", "steps"),
                 {"append": "(self, name, text)", "sync": "(self, name)", "remove": "(self, name)",
                  "rename": "(self, old, new)", "sync_names": "(self)", "read": "(self, name)",
                  "lost": "(self, choices=(), *, power=None)", "__contains__": "(self, value)", "__len__": "(self)",
                  "__str__": "(self)"})},
    "sumstead.disk.keeper": {
        "Keeper": ("(disk, cube)", ("cube", "number", "base", "commits"),
                   {"commit": "(self, author, deeds)", "squeeze": "(self)", "__len__": "(self)", "__eq__": "(self, other)",
                    "__str__": "(self)"})},
    "sumstead.text.shell": {
        "Shell": ("(line)", ("author", "authors", "cube", "said"),
                  {"say": "(self, text)", "run": "(self, texts)", "__contains__": "(self, value)", "__len__": "(self)",
                   "__str__": "(self)"})},
}

CONSTANTS = {
    "sumstead.base.worths": {"ZERO": (0, 1), "ONE": (1, 1), "MOST_DIGITS": 1000},
    "sumstead.outline.outlines": {"MAX_SIDES": 5, "MAX_LEAVES": 30, "MAX_HIERARCHIES": 3, "MAX_GROUPS": 20,
                                  "MAX_DEEP": 6, "MAX_PLACES": 20000},
    "sumstead.plain.formulas": {"MAX_NODES": 60, "MAX_DEPTH": 8},
    "sumstead.plain.rules": {"MAX_RULES": 30, "MAX_RANK": 99},
    "sumstead.plain.cubes": {"MAX_CELLS": 300},
    "sumstead.ask.sets": {"MAX_QUESTIONS": 20, "QUESTION_DEPTH": 6, "MAX_ASKED": 100},
    "sumstead.ask.sheets": {"MAX_SHOWN": 2000},
    "sumstead.code.making": {"MAX_CODE": 2000, "MAX_SLOTS": 60},
    "sumstead.code.passes": {"PASSES": ("folded", "pruned", "threaded", "shared")},
    "sumstead.kept.sums": {"MAX_KEPT": 12},
    "sumstead.store.codings": {"MAX_ROW": 1000, "KINDS": ("plain", "runs", "sparse", "steps")},
    "sumstead.store.blocks": {"MAX_DENSE": 1000, "FREE": "_"},
    "sumstead.hands.line": {"MAX_COMMITS": 100, "MAX_DEEDS": 5},
    "sumstead.change.edits": {"MAX_EDITS": 30, "MAX_TABLE": 20000},
    "sumstead.right.views": {"MAX_GRANTED": 20},
    "sumstead.load.loads": {"MAX_FIELDS": 12, "MAX_ROWS": 200, "MAX_LOADS": 20},
    "sumstead.parts.parts": {"MAX_PARTS": 8, "MAX_SENT": 100},
    "sumstead.disk.disk": {"MAX_FILES": 8, "MAX_TEXT": 200000},
    "sumstead.disk.keeper": {"MAX_KEPT": 100},
    "sumstead.text.shell": {"MAX_LINE": 2000, "SHELL_WORDS": (
        "as", "back", "commit", "drop", "forward", "norule", "put", "renew", "rule", "sheet", "spread", "tell", "who")},
}

ERRORS = ("CubeError", "InvalidName", "InvalidWorth", "InvalidOutline", "InvalidPlace", "InvalidCells", "InvalidRule",
          "InvalidCube", "InvalidQuestion", "InvalidCode", "InvalidStore", "InvalidOperation", "ParseError",
          "InvalidNumber", "UnknownName", "NothingToUndo", "TooMany", "Refused", "PowerLost")


def defined(module):
    """The definitions at the top of a module's file, by their names."""
    with open(inspect.getsourcefile(module)) as file:
        tree = ast.parse(file.read())
    return {node.name: node for node in tree.body if isinstance(node, (ast.FunctionDef, ast.ClassDef))}


class Interface(unittest.TestCase):
    def test_functions(self):
        for name, told in FUNCTIONS.items():
            module = importlib.import_module(name)
            for function, arguments in told.items():
                self.assertIsInstance(defined(module)[function], ast.FunctionDef)
                self.assertEqual(str(inspect.signature(getattr(module, function))), arguments, function)

    def test_classes(self):
        for name, told in CLASSES.items():
            module = importlib.import_module(name)
            for word, (arguments, properties, methods) in told.items():
                self.assertIsInstance(defined(module)[word], ast.ClassDef)
                kind = getattr(module, word)
                self.assertEqual(str(inspect.signature(kind)), arguments, word)
                for one in properties:
                    self.assertIsInstance(vars(kind)[one], property)
                for method, takes in methods.items():
                    self.assertEqual(str(inspect.signature(vars(kind)[method])), takes, method)

    def test_the_class_method(self):
        kind = importlib.import_module("sumstead.disk.keeper").Keeper
        self.assertIsInstance(vars(kind)["up"], classmethod)
        self.assertEqual(str(inspect.signature(kind.up)), "(disk)")

    def test_constants(self):
        for name, told in CONSTANTS.items():
            module = importlib.import_module(name)
            for word, value in told.items():
                self.assertEqual(getattr(module, word), value, word)

    def test_errors(self):
        module = importlib.import_module("sumstead.errors")
        for word in ERRORS:
            self.assertIsInstance(defined(module)[word], ast.ClassDef)


if __name__ == "__main__":
    unittest.main()
