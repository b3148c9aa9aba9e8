"""Sandboxes: writes and questions of one author over one number of a line, until they are committed."""

from sumstead.base.ordered import by_keys, unlike_keys
from sumstead.errors import InvalidOperation, Refused
from sumstead.hands.line import Line, check_author


class Sandbox:
    """Changes over the cube at a base, and what was read for the answers that it told since."""

    def __init__(self, line, author):
        if not isinstance(line, Line):
            raise InvalidOperation(line)
        check_author(author)
        self._line = line
        self._author = author
        self._writes = {}
        self._own_rules = None
        self._stand_on(line.cube)

    def _stand_on(self, cube):
        """Makes the present number the base, with a cube over it; nothing was asked of it."""
        self._cube = cube
        self._base = self._line.present
        self._stood_on = self._line.commits
        self._reads = {}
        self._told_some = False

    @property
    def author(self):
        """The author."""
        return self._author

    @property
    def base(self):
        """The number on which the sandbox stands."""
        return self._base

    @property
    def cube(self):
        """The cube at the base, with the writes and rules of the sandbox."""
        return self._cube

    @property
    def writes(self):
        """The dict from the leaf places that were written to, to the last written worths, or None."""
        return by_keys(self._writes)

    @property
    def rules(self):
        """The rules of its own, or None."""
        return self._own_rules

    @property
    def has_read(self):
        """The leaf places that were read."""
        return tuple(sorted(self._reads))

    @property
    def has_asked(self):
        """Whether an answer was told since the base."""
        return self._told_some

    def write(self, changes):
        """Further writes."""
        self._cube = self._cube.with_cells(changes)
        for place in list(changes):
            self._writes[place] = changes[place]

    def put_rules(self, rules):
        """Rules of its own."""
        self._cube = self._cube.with_rules(rules)
        self._own_rules = rules

    def answer(self, place):
        """The answer of the cube; it is kept in mind what was read for it."""
        told = self._cube.answer(place)
        self._told_some = True
        for touched in _touched_by(self._cube, place):
            if touched not in self._writes:
                self._reads[touched] = True
        return told

    def _is_adrift(self):
        """Whether the commits on which the sandbox stands are not those of the line any more."""
        return self._line.commits[:self._base] != self._stood_on

    def _check_bars(self):
        """Refuses a commit over one of the line that changes what was read."""
        for number in range(self._base + 1, self._line.present + 1):
            places, rules, outlines = self._line.changed(number)
            if outlines:
                raise Refused(("outline", number))
            if rules and self._told_some:
                raise Refused(("rules", number))
            for place in places:
                if place in self._reads:
                    raise Refused(("cell", number, place))

    def commit(self):
        """Commits the writes and the rules to the line; the number."""
        deeds = []
        if len(self._writes) > 0:
            deeds.append(("cells", self._writes))
        if self._own_rules is not None:
            deeds.append(("rules", self._own_rules))
        if len(deeds) == 0:
            raise Refused(("empty",))
        if self._is_adrift():
            raise Refused(("adrift", self._base))
        self._check_bars()
        number = self._line.commit(self._author, tuple(deeds))
        self._writes = {}
        self._own_rules = None
        self._stand_on(self._line.cube)
        return number

    def renew(self):
        """Makes the present number the base, with the writes and rules over it; the number."""
        cube = self._line.cube
        if cube.outline != self._cube.outline:
            raise Refused(("outline", self._base))
        if self._own_rules is not None:
            cube = cube.with_rules(self._own_rules)
        self._stand_on(cube.with_cells(self._writes))
        return self._base

    def __len__(self):
        return len(self._writes)

    def __eq__(self, other):
        if not isinstance(other, Sandbox):
            return False
        one = (self._author, self._line, self._base, self._writes, self._own_rules, self._reads, self._told_some)
        return one == (other._author, other._line, other._base, other._writes, other._own_rules, other._reads,
                       other._told_some)

    def __str__(self):
        return f"sandbox of {self._author} on {self._base}, {len(self._writes)} writes"


def _touched_by(cube, place):
    """The leaf places without rules that the answer at a place touches."""
    touched = {place: True}
    left = [place]
    found = []
    while len(left) > 0:
        one = left.pop()
        if cube.outline.is_leaf_place(one) and cube.rule_at(one) is None:
            found.append(one)
        for needed in cube.needs(one):
            if needed not in touched:
                touched[needed] = True
                left.append(needed)
    return found


def _check_sandboxes(one, other):
    if not isinstance(one, Sandbox):
        raise InvalidOperation(one)
    if not isinstance(other, Sandbox):
        raise InvalidOperation(other)


def _unlike_write(one, other):
    """The least leaf place to which both have written unlike, or None."""
    writes = one.writes
    others = other.writes
    for place in unlike_keys(writes, others):
        if place in writes and place in others:
            return place
    return None


def parting_write(one, other):
    """The least leaf place to which two sandboxes have written unlike, or None."""
    _check_sandboxes(one, other)
    return _unlike_write(one, other)


def are_free(one, other):
    """Whether the writes of two sandboxes make the same in both orders."""
    _check_sandboxes(one, other)
    if _unlike_write(one, other) is not None:
        return False
    return one.rules is None or other.rules is None or one.rules == other.rules
