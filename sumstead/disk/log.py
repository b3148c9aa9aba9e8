"""Texts of plain values; and logs: a cube, and the commits behind it, as lines of such texts."""

from sumstead.base.integers import is_passed_integer
from sumstead.disk.packing import packed_base, packed_commit, unpacked_base, unpacked_commit
from sumstead.disk.plain import is_plain_value, plain_text, plain_value_of
from sumstead.errors import CubeError, InvalidNumber, InvalidOperation, ParseError, Refused, TooMany
from sumstead.hands.line import check_author, check_deeds, copied_commits, cube_behind_all
from sumstead.plain.cubes import check_cube

_MOST_COMMITS = 100
_NEWLINE = "\n"


def write_plain(value):
    """The text of a plain value."""
    if not is_plain_value(value):
        raise InvalidOperation(value)
    return plain_text(value)


def read_plain(text):
    """The plain value that a text tells."""
    if type(text) is not str:
        raise ParseError(None)
    return plain_value_of(text)


def _cube_behind_commit(cube, number, value):
    """The cube behind a commit with the next number; None if the value is none that can be done."""
    if type(value) is not tuple or len(value) != 3 or value[0] != number + 1:
        return None
    try:
        check_author(value[1])
        check_deeds(value[2])
        return cube_behind_all(cube, value[2])
    except (CubeError, Refused, TooMany):
        return None


def _are_commits(cube, number, value):
    """Whether the value is a tuple of commits with the next numbers that can be done."""
    if type(value) is not tuple or len(value) > _MOST_COMMITS:
        return False
    for count, commit in enumerate(value):
        cube = _cube_behind_commit(cube, number + count, commit)
        if cube is None or not is_passed_integer(commit[0]):
            return False
    return True


def base_line(cube, number):
    """The first line of a log."""
    return plain_text(packed_base(cube, number)) + _NEWLINE


def commit_line(commit):
    """The line of a commit."""
    return plain_text(packed_commit(commit)) + _NEWLINE


def log_text(cube, number, commits):
    """The text of a log: a cube at a number, and the commits behind it."""
    check_cube(cube)
    if not is_passed_integer(number) or number < 0:
        raise InvalidNumber(number)
    if not _are_commits(cube, number, commits):
        raise InvalidOperation(commits)
    return "".join([base_line(cube, number)] + [commit_line(commit) for commit in commits])


def _plain_or_none(line):
    """The plain value of a line; None, which no line of a log tells, if it has none."""
    try:
        return plain_value_of(line)
    except ParseError:
        return None


def read_log(text):
    """The cube, the number and the commits of a log, and how many characters its whole lines have."""
    if type(text) is not str:
        raise ParseError(None)
    lines = text.split(_NEWLINE)[:-1]
    base = None if len(lines) == 0 else unpacked_base(_plain_or_none(lines[0]))
    if base is None:
        raise ParseError(0)
    first, number = base
    cube = first
    commits = []
    for index, line in enumerate(lines):
        if index > 0:
            commit = unpacked_commit(_plain_or_none(line))
            cube = _cube_behind_commit(cube, number + index - 1, commit)
            if cube is None:
                raise ParseError(index)
            commits.append(commit)
    return (first, number, copied_commits(commits), text.rfind(_NEWLINE) + 1)
