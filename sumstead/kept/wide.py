"""The wide reading: the levels of all places to which looking leads from one place.

It is not recursive over places: looking goes on at the last place of a path, and comes back to the one ahead.
"""

from heapq import heappop, heappush

from sumstead.kept.looking import NOTHING, THERE, TROUBLE
from sumstead.kept.looking import asks_of, formula_tree, has_choice, level_of, opened_tree


class Looking:
    """A place on the path, with the places that are still to be looked at from there."""

    def __init__(self, place, tree):
        self.spot = place
        self.tree = tree
        self.places_left = asks_of(tree)[::-1]


class WideView:
    """All places to which looking leads from a place, those that are asked ahead of those that ask.

    `trees` is in this order. `leaf_spots` are the leaf places without a rule; all others are told by their trees.
    """

    def __init__(self, cube, place):
        self.viewed_cube = cube
        self.root = place
        self.trees = {}
        self.leaf_spots = {}
        self.comes_to_choice = False
        self._path = []
        self._on_path = {}
        self._look(place)

    def _tree_at(self, place):
        """The tree of a place; None for a leaf place without a rule."""
        cube = self.viewed_cube
        rule_index = cube.rule_at(place)
        if rule_index is None:
            return opened_tree(cube.outline, place)
        formula = cube.rules[rule_index].formula
        if has_choice(formula):
            self.comes_to_choice = True
        return formula_tree(cube.outline, place, formula)

    def _enter(self, place):
        tree = self._tree_at(place)
        if tree is None:
            self.leaf_spots[place] = True
            self.trees[place] = None
        else:
            self._path.append(Looking(place, tree))
            self._on_path[place] = True

    def _look(self, place):
        self._enter(place)
        while len(self._path) > 0:
            last = self._path[-1]
            if len(last.places_left) == 0:
                self.trees[last.spot] = last.tree
                del self._on_path[last.spot]
                self._path.pop()
                continue
            asked = last.places_left.pop()
            if asked in self._on_path:
                # A ring; who asks this place is told so by its trouble.
                last.tree = ("known", TROUBLE)
            elif asked not in self.trees:
                self._enter(asked)


class WideReading:
    """The levels of the places of a view, with some of its leaf places there.

    Leaf places can be given other levels, all of them the same way, up or down.
    """

    def __init__(self, view, there):
        self._trees = view.trees
        self._root = view.root
        self._order = list(view.trees)
        self._seats = {place: seat for seat, place in enumerate(self._order)}
        self._askers = {place: [] for place in self._order}
        self._levels = {}
        # Levels that places cannot come to without breaking what holds at the root.
        self._bars = {}
        for place in list(self._order):
            tree = self._trees[place]
            if tree is None:
                self._levels[place] = THERE if place in there else NOTHING
            else:
                self._levels[place] = level_of(tree, self._levels)
                for asked in asks_of(tree):
                    self._askers[asked].append(place)

    def root_level(self):
        """The level of the place from which looking began."""
        return self._levels[self._root]

    def comes_to_trouble(self):
        """Whether some place has trouble."""
        return any([self._levels[place] == TROUBLE for place in self._order])

    def breaks(self, leaf_place, level):
        """Gives a leaf place another level; whether the root becomes nothing, or is it no longer, by that.

        If so, all is taken back.
        """
        befores = {}
        alone = []
        heap = [self._seats[leaf_place]]
        waiting = {leaf_place: True}
        while len(heap) > 0:
            place = self._order[heappop(heap)]
            now = level if place == leaf_place else level_of(self._trees[place], self._levels)
            befores[place] = self._levels[place]
            if now == befores[place]:
                continue
            self._levels[place] = now
            if len(heap) == 0:
                alone.append(place)
            if self._is_broken(place, befores[place]):
                self._bar(alone, befores)
                self._take_back(befores)
                return True
            for asker in self._askers[place]:
                if asker not in waiting:
                    waiting[asker] = True
                    heappush(heap, self._seats[asker])
        return False

    def _is_broken(self, place, before):
        now = self._levels[place]
        if place == self._root and (before == NOTHING) != (now == NOTHING):
            return True
        if place not in self._bars:
            return False
        return now >= self._bars[place] if now > before else now <= self._bars[place]

    def _bar(self, places, befores):
        """Bars the levels of places, each of which led on alone to what is broken.

        Other levels only go further the same way later. So these would break it again.
        """
        for place in places:
            if not self._is_broken(place, befores[place]):
                self._bars[place] = self._levels[place]

    def _take_back(self, befores):
        for place in befores:
            self._levels[place] = befores[place]
