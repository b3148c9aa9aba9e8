"""Random small cubes against the second reading of plainly.py."""

import unittest

from sumstead.ask.sets import is_question, members_of, read_question, write_question
from sumstead.plain.cubes import Cube
from sumstead.plain.forms import Form, form_of, is_linear
from sumstead.plain.weights import (answer_by, answer_by_leaves, is_clean, is_parting, leaf_weights, parting_cells)
from sumstead.errors import Refused
from sumstead.text.outlines import read_cells, read_outline, write_cells, write_outline
from sumstead.text.rules import read_rule, write_rule

from chance import Chance
from plainly import Plain, Stop, fraction, pair


class Readings(unittest.TestCase):
    def test_answers_and_needs(self):
        kinds = {}
        for seed in range(400):
            cube = Chance(seed).cube()
            plain = Plain(cube)
            for place in cube.outline.places():
                expected = plain.answer(place)
                kind = expected[0] if expected[0] != "refused" else expected[1][0]
                kinds[kind] = kinds.get(kind, 0) + 1
                # A cube that was asked much answers as one that was asked nothing.
                fresh = Cube(cube.outline, cube.rules, cube.cells)
                self.assertEqual(fresh.needs(place), plain.needs(place), (seed, place))
                self.assertEqual(fresh.answer(place), expected, (seed, place))
                self.assertEqual(cube.answer(place), expected, (seed, place))
                self.assertEqual(cube.needs(place), plain.needs(place), (seed, place))
                self.assertEqual(cube.rule_at(place), plain.rule_at(place), (seed, place))
        self.assertTrue(all(kinds.get(kind, 0) > 20 for kind in ("worth", "nothing", "zero", "ring")), kinds)

    def test_orders(self):
        for seed in range(200):
            chance = Chance(seed)
            cube = chance.cube()
            order = chance.order(cube.outline)
            plain = Plain(cube, order)
            for place in cube.outline.places():
                self.assertEqual(answer_by(cube, place, order), plain.answer(place), (seed, place, order))

    def test_clean_places(self):
        for seed in range(200):
            cube = Chance(seed).cube()
            plain = Plain(cube)
            for place in cube.outline.places():
                beneath = self.beneath(cube.outline, place)
                clean = all(plain.rule_at(one) is None for one in beneath)
                self.assertIs(is_clean(cube, place), clean)
                if clean:
                    self.assertEqual(answer_by_leaves(cube, place), cube.answer(place))
                leaf_places = sorted(one for one in beneath if cube.outline.has_leaves(one))
                self.assertEqual(list(leaf_weights(cube.outline, place)), leaf_places)

    def beneath(self, outline, place):
        found = [()]
        for side, member in zip(outline.sides, place):
            row = [member]
            for one in row:
                row.extend(child for child, _ in side.children(one))
            found = [begun + (one,) for begun in found for one in row]
        return found

    def test_forms(self):
        words = {}
        for seed in range(300):
            chance = Chance(seed)
            cube = chance.cube(linear=True)
            self.assertTrue(all(is_linear(rule.formula) for rule in cube.rules))
            order = chance.order(cube.outline)
            for place in cube.outline.places():
                answer = answer_by(cube, place, order)
                try:
                    form = form_of(cube, place, order=order)
                except Refused as refusal:
                    self.assertEqual(answer, ("refused", refusal.reason))
                    words["ring"] = words.get("ring", 0) + 1
                    continue
                self.assertEqual(form, Form(form.constant, form.weights, form.always))
                words[form.always] = words.get(form.always, 0) + 1
                for cells in ({}, cube.cells, chance.cells(cube.outline)):
                    told = form.at(cells)
                    expected = ("nothing",) if told is None else ("worth", told)
                    other = Cube(cube.outline, cube.rules, cells)
                    self.assertEqual(answer_by(other, place, order), expected, (seed, place))
        self.assertTrue(all(words.get(word, 0) > 20 for word in ("ring", True, False)), words)

    def test_forms_with_rules_that_are_not_linear(self):
        for seed in range(150):
            cube = Chance(seed).cube()
            for place in cube.outline.places():
                self.assertEqual(self.refusal(cube, place), self.first_refusal(cube, place, ()), (seed, place))

    def refusal(self, cube, place):
        try:
            form_of(cube, place)
        except Refused as refusal:
            return refusal.reason
        return None

    def first_refusal(self, cube, place, opened):
        """The first refusal of a reading in which rules that are not linear refuse, whatever the cells are."""
        plain = Plain(cube)
        if place in opened:
            ring = list(opened[opened.index(place):])
            least = ring.index(min(ring))
            return ("ring", tuple(ring[least:] + ring[:least]))
        index = plain.rule_at(place)
        if index is not None and not is_linear(cube.rules[index].formula):
            return ("rule", index)
        asks = []
        plain.place = lambda asked, _: None
        plain.read(place, (place,), asks)
        for asked in asks:
            reason = self.first_refusal(cube, asked, opened + (place,))
            if reason is not None:
                return reason
        return None

    def test_parting_cells(self):
        parted = 0
        for seed in range(300):
            chance = Chance(seed)
            one = chance.outline()
            other = self.twin(chance, one)
            places = tuple(one.places())[:100]
            value = parting_cells(one, other, places)
            alike = all(leaf_weights(one, place) == leaf_weights(other, place) for place in places)
            self.assertIs(value is None, alike, seed)
            if value is None:
                continue
            parted += 1
            self.assertTrue(is_parting(one, other, places, value))
            self.assertEqual(len(value), 1)
            answers = [[Cube(outline, (), value).answer(place) for place in places] for outline in (one, other)]
            self.assertNotEqual(answers[0], answers[1])
            for leaf_place in one.leaf_places():
                for worth in ((0, 1), (-2, 3)):
                    cells = {leaf_place: worth}
                    unlike = any(Cube(one, (), cells).answer(place) != Cube(other, (), cells).answer(place)
                                 for place in places)
                    self.assertIs(is_parting(one, other, places, cells), unlike)
        self.assertGreater(parted, 20)

    def twin(self, chance, outline):
        """An outline with the same places, in which some weights, or the order of leaves, are others."""
        from sumstead.outline.outlines import Outline, Side
        sides = []
        for side in outline.sides:
            hierarchies = []
            for name, rows in side.hierarchies:
                turned = []
                for group, children in rows:
                    if chance.random.random() < 0.2:
                        children = tuple((child, chance.weight()) for child, _ in children)
                    turned.append((group, children[::-1]))
                hierarchies.append((name + "t", tuple(turned)))
            sides.append(Side(side.name + "t", side.leaves[::-1], tuple(hierarchies)))
        return Outline(tuple(sides))

    def test_texts(self):
        for seed in range(300):
            cube = Chance(seed).cube()
            outline = cube.outline
            self.assertEqual(read_outline(write_outline(outline)), outline)
            text = write_cells(outline, cube.cells)
            self.assertEqual(read_cells(outline, text), cube.cells)
            for rule in cube.rules:
                self.assertEqual(read_rule(outline, write_rule(outline, rule)), rule)


class Questions(unittest.TestCase):
    def test_members(self):
        refused = 0
        for seed in range(500):
            chance = Chance(seed)
            cube = chance.cube()
            side = chance.one_of(cube.outline.sides)
            question = chance.question(cube.outline, side)
            if not is_question(question):
                continue
            for place in list(cube.outline.places())[:12]:
                told = members_of(cube, place, side.name, question)
                self.assertEqual(told, self.answer(cube, place, side, question), (seed, place))
                refused += told[0] == "refused"
            self.assertEqual(read_question(write_question(question)), question)
        self.assertGreater(refused, 20)

    def answer(self, cube, place, side, question):
        try:
            return ("members", tuple(self.members(Plain(cube), place, side, question)))
        except Stop as stop:
            return ("refused", stop.reason)

    def members(self, plain, place, side, question):
        word = question[0]
        index = plain.sides.index(side)

        def asked(member):
            return place[:index] + (member,) + place[index + 1:]
        if word == "all":
            return list(side.members)
        if word == "leaves":
            return list(side.leaves)
        if word == "members":
            return list(question[1])
        if word == "children":
            return [child for child, _ in side.children(question[1])]
        if word == "under":
            return [leaf for leaf, _ in side.under(question[1])]
        if word == "level":
            rows = dict(side.hierarchies)[question[1]]
            row = [rows[0][0]]
            for _ in range(question[2]):
                row = [child for member in row for child, _ in side.children(member)]
            return row
        first = self.members(plain, place, side, question[1])
        if word in ("union", "less", "meet"):
            second = self.members(plain, place, side, question[2])
            if word == "union":
                return first + [member for member in second if member not in first]
            return [member for member in first if (member in second) == (word == "meet")]
        if word == "first":
            return first[:question[2]]
        if word == "filter":
            return [member for member in first if plain.test(question[2], asked(member), asked(member), (), [])]
        node = question[2] if word == "order" else question[3]
        told = [(member, plain.formula(node, asked(member), asked(member), (), [])) for member in first]
        there = [row for row in told if row[1] is not None]
        up = word == "order" and question[3] == "up"
        there.sort(key=lambda row: (row[1] if up else -row[1], side.members.index(row[0])))
        lacking = sorted((row[0] for row in told if row[1] is None), key=side.members.index)
        if word == "best":
            return [row[0] for row in there][:question[2]]
        return [row[0] for row in there] + lacking


if __name__ == "__main__":
    unittest.main()
