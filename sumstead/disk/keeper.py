"""A keeper: a cube and commits, in a file of a disk that can lose its power at each step."""

from sumstead.disk.disk import MAX_TEXT, Disk
from sumstead.disk.log import base_line, commit_line, read_log
from sumstead.errors import InvalidStore, TooMany
from sumstead.hands.line import check_author, check_deeds, copied_commits, copied_deeds, cube_behind_all
from sumstead.plain.cubes import check_cube

MAX_KEPT = 100

_LOG = "log"
_FRESH = "fresh"


def _put_log(disk, text):
    """Makes a text the whole log, so that behind a loss of power the log is the one ahead, or this one."""
    # What no power would help is refused ahead of the first step, so that it changes nothing.
    if len(text) > MAX_TEXT:
        raise TooMany(MAX_TEXT)
    if _FRESH in disk:
        disk.remove(_FRESH)
    disk.append(_FRESH, text)
    # The text is firm ahead of the name: so the name never stands for a part of it.
    disk.sync(_FRESH)
    disk.rename(_FRESH, _LOG)
    disk.sync_names()


def _mend(disk, text, many):
    """Makes the first characters of a log the whole firm log."""
    if many < len(text):
        _put_log(disk, text[:many])
        return
    if not disk.has_firm_text(_LOG):
        disk.sync(_LOG)
    if not disk.has_firm_names():
        disk.sync_names()


class Keeper:
    """The present cube, a base, and the commits behind it, each of which is firm when its number is returned."""

    def __init__(self, disk, cube):
        if not isinstance(disk, Disk) or _LOG in disk:
            raise InvalidStore("no disk without a log")
        check_cube(cube)
        _put_log(disk, base_line(cube, 0))
        self._disk = disk
        self._cube = cube
        self._base = 0
        self._commits = []

    @classmethod
    def up(cls, disk):
        """The keeper of a disk with a log, which is mended if need be."""
        if not isinstance(disk, Disk) or _LOG not in disk:
            raise InvalidStore("no disk with a log")
        text = disk.read(_LOG)
        cube, base, commits, many = read_log(text)
        _mend(disk, text, many)
        # A new keeper begins its disk anew, so it is made on one that is thrown away.
        keeper = cls(Disk(), cube)
        keeper.keep_on(disk, base, commits)
        return keeper

    def keep_on(self, disk, base, commits):
        """Goes on with the log of a disk: the number of its base, over which this cube is, and its commits."""
        self._disk = disk
        self._base = base
        for commit in commits:
            self._cube = cube_behind_all(self._cube, commit[2])
        self._commits = list(commits)

    @property
    def cube(self):
        """The present cube."""
        return self._cube

    @property
    def number(self):
        """The present number."""
        return self._base + len(self._commits)

    @property
    def base(self):
        """The number of the base."""
        return self._base

    @property
    def commits(self):
        """The commits behind the base."""
        return copied_commits(self._commits)

    def commit(self, author, deeds):
        """Does deeds, and keeps them; the number."""
        check_author(author)
        check_deeds(deeds)
        if len(self._commits) >= MAX_KEPT:
            raise TooMany(MAX_KEPT)
        behind = cube_behind_all(self._cube, deeds)
        commit = (self.number + 1, author, copied_deeds(deeds))
        self._disk.append(_LOG, commit_line(commit))
        self._disk.sync(_LOG)
        self._cube = behind
        self._commits = self._commits + [commit]
        return self.number

    def squeeze(self):
        """Makes the present cube the base."""
        _put_log(self._disk, base_line(self._cube, self.number))
        self._base = self.number
        self._commits = []

    def __len__(self):
        return len(self._commits)

    def __eq__(self, other):
        if not isinstance(other, Keeper):
            return False
        one = (self._cube, self._base, self._commits)
        return one == (other._cube, other._base, other._commits)

    def __str__(self):
        return f"keeper at {self.number}, {len(self._commits)} behind the base"
