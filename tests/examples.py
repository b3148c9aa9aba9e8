"""The values that the document's examples use, and values that are wrong nearly everywhere."""

from sumstead.outline.outlines import Outline, Side
from sumstead.plain.cubes import Cube
from sumstead.plain.rules import Rule

ONE = (1, 1)

TIME = Side("time", ("jan", "feb", "mar"),
            (("year", (("all", (("jan", (1, 1)), ("feb", (1, 1)), ("mar", (1, 1)))),)),))
SHOP = Side("shop", ("a", "b"),
            (("sums", (("both", (("a", (1, 1)), ("b", (1, 1)))),)),
             ("less", (("diff", (("a", (1, 1)), ("b", (-1, 1)))),))))
FLAT = Outline((TIME, SHOP))
SOME = Cube(FLAT, (), {("jan", "a"): (4, 1), ("feb", "a"): (6, 1), ("jan", "b"): (1, 2)})
GROWTH = Rule((None, ("diff",)), ("over", ("at", (("shop", ("to", "a")),)),
                                  ("at", (("shop", ("to", "a")), ("time", ("step", -1))))), 2)
RULED = SOME.with_rules((GROWTH,))
LOOP = SOME.with_rules((Rule((None, ("b",)), ("plus", ("at", (("shop", ("to", "both")),)), ("worth", (1, 1)))),))

HERE = ("at", ())
NOTHING = ("nothing",)


def number(top, bottom=1):
    """The formula of a worth."""
    return ("worth", (top, bottom))


def to(*pairs):
    """The formula that asks the place with members moved to others."""
    return ("at", tuple((side, ("to", member)) for side, member in sorted(pairs)))


def odd_values():
    """Values that are no name, no worth, no place, no dict of anything: none of them is right anywhere here."""
    return [
        None, True, False, 0, 1, -1, 10 ** 60, -10 ** 99, "", "A", "1a", "ab cd", "a\nb", "a\tb", "longer9ame",
        (), [], {}, (1,), (1, 2, 3), [1, 1], (True, 1), (1, True), (1, 0), (2, 2), (1, -1), ("1", "1"),
        ([],), ({},), ([], []), (None, None), ((), ()), ((((((((),),),),),),),), {1: 2}, {(): ()},
        {("a",): None}, TIME, FLAT, (TIME,), (FLAT,), [TIME], "x" * 60000, SOME, GROWTH, (GROWTH, SOME), [GROWTH],
    ]


def nines(many):
    """The greatest integer with so many digits."""
    return 10 ** many - 1


def raised(call, *args, **keywords):
    """The error that a call raises, or None."""
    try:
        call(*args, **keywords)
    except Exception as error:
        return error
    return None


class Checks:
    """Further checks for test cases."""

    def assert_raises(self, kind, call, *args, **keywords):
        """The error of just this class that a call raises."""
        error = raised(call, *args, **keywords)
        self.assertIs(type(error), kind, (call, args, keywords, error))
        return error
