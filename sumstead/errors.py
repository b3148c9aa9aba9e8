"""The errors of the package."""


class CubeError(ValueError):
    """An argument that is not what it should be."""

    def __init__(self, message):
        self.message = message


class InvalidName(CubeError):
    """No name."""


class InvalidWorth(CubeError):
    """No worth."""


class InvalidOutline(CubeError):
    """No outline, or no side."""


class InvalidPlace(CubeError):
    """No place, or no places."""


class InvalidCells(CubeError):
    """No cells, or no changes of cells."""


class InvalidRule(CubeError):
    """No formula, or no rule."""


class InvalidCube(CubeError):
    """No cube."""


class InvalidQuestion(CubeError):
    """No question."""


class InvalidCode(CubeError):
    """No code."""


class InvalidStore(CubeError):
    """Nothing to keep a cube in."""


class InvalidOperation(CubeError):
    """Nothing that can be done."""


class ParseError(CubeError):
    """A text that cannot be read."""

    def __init__(self, spot):
        self.spot = spot


class InvalidNumber(IndexError):
    """A number that is not within its bounds."""

    def __init__(self, given):
        self.given = given


class UnknownName(KeyError):
    """A name that stands for nothing."""

    def __init__(self, asked):
        self.asked = asked


class NothingToUndo(LookupError):
    """Fewer steps back, or forward, than were asked."""

    def __init__(self, many):
        self.many = many


class TooMany(OverflowError):
    """More than a limit lets in."""

    def __init__(self, limit):
        self.limit = limit


class Refused(ArithmeticError):
    """What is well told but cannot be done."""

    def __init__(self, reason):
        self.reason = reason


class PowerLost(RuntimeError):
    """A disk without power."""

    def __init__(self, taken):
        self.taken = taken
