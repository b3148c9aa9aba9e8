"""The line of commits: deeds that are done to a cube, one behind the other, and the way back."""

from sumstead.base.integers import is_between, is_passed_integer
from sumstead.base.ordered import by_keys, is_same, unlike_keys
from sumstead.base.worths import is_name
from sumstead.change.edits import carried, is_script
from sumstead.errors import InvalidName, InvalidNumber, InvalidOperation, NothingToUndo, TooMany
from sumstead.outline.trees import is_pair
from sumstead.plain.cubes import are_changes, are_rules, check_cube

MAX_COMMITS = 100
MAX_DEEDS = 5


def is_deed(cube, value):
    """Whether the value is a deed for a cube by its form."""
    check_cube(cube)
    if not is_pair(value):
        return False
    word, given = value
    if word == "cells":
        return are_changes(cube.outline, given)
    if word == "rules":
        return are_rules(cube.outline, given)
    return word == "edits" and is_script(given)


def cube_behind(cube, deed):
    """The cube behind a deed."""
    if not is_deed(cube, deed):
        raise InvalidOperation(deed)
    word, given = deed
    if word == "cells":
        return cube.with_cells(given)
    if word == "rules":
        return cube.with_rules(given)
    return carried(cube, given)


def check_author(author):
    """Refuses what is no name of an author."""
    if not is_name(author):
        raise InvalidName(author)


def check_deeds(deeds):
    """Refuses what is no tuple of as many deeds as a commit can have, whatever deeds they are."""
    if type(deeds) is not tuple or not 1 <= len(deeds) <= MAX_DEEDS:
        raise InvalidOperation(deeds)


def cube_behind_all(cube, deeds):
    """The cube behind deeds that are done one behind the other."""
    for deed in deeds:
        cube = cube_behind(cube, deed)
    return cube


def _copied(deed):
    return ("cells", by_keys(deed[1])) if deed[0] == "cells" else deed


def copied_deeds(deeds):
    """The deeds, with dicts of their own."""
    return tuple([_copied(deed) for deed in deeds])


def copied_commits(commits):
    """The tuple of commits, with dicts of their own."""
    return tuple([(number, author, copied_deeds(deeds)) for number, author, deeds in commits])


def _check_count(count, many):
    """Refuses what is no count, or more than there are."""
    if not is_passed_integer(count) or count < 1:
        raise InvalidNumber(count)
    if count > many:
        raise NothingToUndo(count)


class Line:
    """A first cube and commits; those behind the present number are ahead."""

    def __init__(self, cube):
        check_cube(cube)
        # The cubes at all numbers, those ahead among them.
        self._cubes = [cube]
        self._done = []
        self._undone = []

    @property
    def present(self):
        """The present number."""
        return len(self._done)

    @property
    def cube(self):
        """The cube at the present number."""
        return self._cubes[len(self._done)]

    @property
    def commits(self):
        """The commits up to the present one."""
        return copied_commits(self._done)

    @property
    def ahead(self):
        """The commits ahead."""
        return copied_commits(self._undone)

    def commit(self, author, deeds):
        """Puts a commit behind the present one, and drops those ahead; its number."""
        check_author(author)
        check_deeds(deeds)
        if len(self._done) == MAX_COMMITS:
            raise TooMany(MAX_COMMITS)
        behind = cube_behind_all(self.cube, deeds)
        number = len(self._done) + 1
        self._cubes = self._cubes[:number] + [behind]
        self._done = self._done + [(number, author, copied_deeds(deeds))]
        self._undone = []
        return number

    def _check_number(self, number, least):
        if not is_between(number, least, len(self._done)):
            raise InvalidNumber(number)

    def at(self, number):
        """The cube at a number."""
        self._check_number(number, 0)
        return self._cubes[number]

    def changed(self, number):
        """The leaf places whose cells a commit changes, and whether it changes the rules, and the outline."""
        self._check_number(number, 1)
        pairs, rules, outlines = self.compared(number - 1, number)
        return (tuple([place for place in pairs]), rules, outlines)

    def compared(self, one, other):
        """The pairs of unlike cells at two numbers, and whether the rules, and the outlines, are unlike."""
        first = self.at(one)
        second = self.at(other)
        cells = first.cells
        twins = second.cells
        pairs = {place: (cells.get(place, None), twins.get(place, None)) for place in unlike_keys(cells, twins)}
        return (pairs, first.rules != second.rules, first.outline != second.outline)

    def _go_to(self, number):
        """Makes a number present."""
        commits = self._done + self._undone
        self._done = commits[:number]
        self._undone = commits[number:]
        return number

    def back(self, count=1):
        """Makes the number present that is less by a count."""
        _check_count(count, len(self._done))
        return self._go_to(len(self._done) - count)

    def forward(self, count=1):
        """Makes the number present that is greater by a count."""
        _check_count(count, len(self._undone))
        return self._go_to(len(self._done) + count)

    def __contains__(self, value):
        return any([is_same(value, commit) for commit in self._done])

    def __len__(self):
        return len(self._done)

    def __eq__(self, other):
        if not isinstance(other, Line):
            return False
        one = (self._cubes[0], self._done, self._undone)
        return one == (other._cubes[0], other._done, other._undone)

    def __str__(self):
        return f"line of {len(self._done)} commits, {len(self._undone)} ahead"
