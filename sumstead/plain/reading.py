"""The plain reading: it tells places by rules, cells and children, and finds rings."""

from sumstead.errors import Refused
from sumstead.plain.steps import FormulaReading, OpenedReading


class RankedRule:
    """A rule with its index, and its area as dicts, in which a member is found at once."""

    def __init__(self, index, rule):
        self.rule_index = index
        self.rule = rule
        self.tables = []
        for entry in rule.area:
            self.tables.append(None if entry is None else {name: True for name in entry})

    def has_place(self, place):
        """Whether the area has a place of the outline."""
        for name, table in zip(place, self.tables):
            if table is not None and name not in table:
                return False
        return True


def ranked(rules):
    """The rules, in the order in which they may tell a place."""
    ranks = sorted([(-rule.rank, -index) for index, rule in enumerate(rules)])
    return [RankedRule(-index, rules[-index]) for _, index in ranks]


def turned(ring):
    """A ring of places from its least place on."""
    begin = ring.index(min(ring))
    return tuple(ring[begin:] + ring[:begin])


class Reader:
    """Reads places of an outline, with rules, by an order of the sides.

    It keeps what was told, and what was refused, for later questions.
    """

    def __init__(self, outline, rules, ways, order):
        self._outline = outline
        self._ranked = ranked(rules)
        self._ways = ways
        self._order = order
        self._known = {}
        self._refusals = {}

    def rule_for(self, place):
        """The index of the rule that tells a place, or None."""
        found = self._rule_at(place)
        return None if found is None else found.rule_index

    def _rule_at(self, place):
        for ranked_rule in self._ranked:
            if ranked_rule.has_place(place):
                return ranked_rule
        return None

    def _group_index(self, place):
        """The first index, by the order of the sides, at which a place has a group, or None."""
        for index in self._order:
            if not self._outline.sides[index].is_leaf(place[index]):
                return index
        return None

    def _begin(self, place):
        """The reading of a place, or None if it is told at once, as a leaf place is told its cell."""
        found = self._rule_at(place)
        if found is not None:
            self._ways.check_rule(found.rule_index, found.rule)
            return FormulaReading(self._outline, place, found.rule.formula, self._ways)
        index = self._group_index(place)
        if index is None or self._ways.is_whole(place):
            self._known[place] = self._ways.leaf(place)
            return None
        return OpenedReading(self._outline, place, index, self._ways)

    def _enter(self, place, readings, spots):
        """Begins to read a place that the last reading asks."""
        if place in self._refusals:
            raise Refused(self._refusals[place])
        if place in spots:
            raise Refused(("ring", turned([reading.spot for reading in readings[spots[place]:]])))
        reading = self._begin(place)
        if reading is not None:
            spots[place] = len(readings)
            readings.append(reading)

    def _run(self, readings, spots):
        """Reads until the last of the readings has its outcome; the first one's outcome."""
        while True:
            reading = readings[-1]
            asked = reading.go_on(self._known)
            if asked is not None:
                self._enter(asked, readings, spots)
                continue
            told = reading.outcome()
            if reading.spot in spots:
                self._ways.check_told(reading.spot, told)
                self._known[reading.spot] = told
                del spots[reading.spot]
            readings.pop()
            if len(readings) == 0:
                return told

    def _finish(self, bottom, spots):
        """The outcome of a reading; all that is open when a place is refused is refused likewise."""
        readings = [bottom]
        try:
            return self._run(readings, spots)
        except Refused as refusal:
            for place in spots:
                self._refusals[place] = refusal.reason
            raise

    def tell(self, place):
        """What a place is told; raises Refused if it is refused."""
        if place in self._refusals:
            raise Refused(self._refusals[place])
        if place not in self._known:
            reading = self._begin(place)
            if reading is not None:
                self._finish(reading, {place: 0})
        return self._known[place]

    def answer(self, place):
        """The answer at a place, told in worths."""
        try:
            told = self.tell(place)
        except Refused as refusal:
            return ("refused", refusal.reason)
        if told is None:
            return ("nothing",)
        return ("worth", told)

    def needs(self, place):
        """The places that the reading of a place asks itself, in order."""
        reading = self._begin(place)
        if reading is None:
            return ()
        try:
            self._finish(reading, {place: 0})
        except Refused:
            # What was asked up to the refusal is what the place needs.
            pass
        return tuple([asked for asked in reading.asks])

    def read_node(self, place, node):
        """What a formula, or a test, tells with an asked place that is not open."""
        return self._finish(FormulaReading(self._outline, place, node, self._ways), {})
