"""Cheapest plans: which kept places tell a clean place with the fewest pairs."""

from sumstead.base.ordered import are_ascending
from sumstead.base.worths import is_worth
from sumstead.plain.boxes import Box, do_meet, factor_of, has_leaf_place, size_of, weights_of
from sumstead.outline.trees import is_pair


def _best_of(boxes):
    """The boxes, apart from one another, that have the most leaf places more than boxes."""
    # Pairs of what is saved and the bits of the chosen boxes, for all boxes that can stand together.
    choices = [(0, 0)]
    for index, box in enumerate(boxes):
        barred = sum([1 << at for at, other in enumerate(boxes[:index]) if do_meet(box, other)])
        more = size_of(box) - 1
        choices = choices + [(saved + more, bits | (1 << index)) for saved, bits in choices if bits & barred == 0]
    _, best = max(choices)
    return [box for index, box in enumerate(boxes) if best & (1 << index) != 0]


class Plans:
    """The kept places of an outline, and which of them tell other places."""

    def __init__(self, outline, kept_places):
        self.layout = outline
        self.kept_boxes = [Box(outline, place) for place in kept_places]
        self.best = {}

    def best_pairs(self, place):
        """The pairs (kept box, factor) of a cheapest plan of a place; leaf places tell the rest."""
        if place not in self.best:
            box = Box(self.layout, place)
            fitting = [one for one in self.kept_boxes if size_of(one) > 1 and factor_of(box, one) is not None]
            self.best[place] = [(one, factor_of(box, one)) for one in _best_of(fitting)]
        return self.best[place]

    def plan(self, place):
        """A cheapest plan of a place."""
        chosen = self.best_pairs(place)
        pairs = [(one.source, factor) for one, factor in chosen]
        for leaf_place, weight in weights_of(Box(self.layout, place)):
            if not any([has_leaf_place(one, leaf_place) for one, _ in chosen]):
                pairs.append((leaf_place, weight))
        return tuple(sorted(pairs))

    def _is_source(self, value):
        if self.layout.is_leaf_place(value):
            return True
        return value in [one.source for one in self.kept_boxes]

    def is_plan(self, place, value):
        """Whether the value is a cheapest plan of a place."""
        if not _are_pairs(value) or not all([self._is_source(source) for source, _ in value]):
            return False
        box = Box(self.layout, place)
        saved = sum([size_of(one) - 1 for one, _ in self.best_pairs(place)])
        if len(value) != size_of(box) - saved or not are_ascending([source for source, _ in value]):
            return False
        boxes = [Box(self.layout, source) for source, _ in value]
        if not all([factor_of(box, one) == pair[1] for one, pair in zip(boxes, value)]):
            return False
        # All sources are within the box: if they are apart, and have as many leaf places, they are all of it.
        return _are_apart(boxes) and sum([size_of(one) for one in boxes]) == size_of(box)


def _are_pairs(value):
    """Whether the value is a tuple of pairs with worths as factors."""
    if type(value) is not tuple or not all([is_pair(pair) for pair in value]):
        return False
    return all([is_worth(factor) for _, factor in value])


def _are_apart(boxes):
    """Whether no leaf place is in two boxes."""
    found = {}
    for box in boxes:
        for leaf_place, _ in weights_of(box):
            if leaf_place in found:
                return False
            found[leaf_place] = True
    return True
