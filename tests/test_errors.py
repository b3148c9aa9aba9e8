import unittest

from sumstead import errors

DIRECT = ("InvalidName", "InvalidWorth", "InvalidOutline", "InvalidPlace", "InvalidCells", "InvalidRule",
          "InvalidCube", "InvalidQuestion", "InvalidCode", "InvalidStore", "InvalidOperation", "ParseError")
OTHERS = {"InvalidNumber": (IndexError, "given"), "UnknownName": (KeyError, "asked"),
          "NothingToUndo": (LookupError, "many"), "TooMany": (OverflowError, "limit"),
          "Refused": (ArithmeticError, "reason"), "PowerLost": (RuntimeError, "taken")}


class ErrorClasses(unittest.TestCase):
    def test_what_derives_from_what(self):
        self.assertEqual(errors.CubeError.__bases__, (ValueError,))
        for name in DIRECT:
            self.assertEqual(getattr(errors, name).__bases__, (errors.CubeError,), name)
        for name, (base, _) in OTHERS.items():
            self.assertEqual(getattr(errors, name).__bases__, (base,), name)

    def test_what_they_keep(self):
        for value in (None, 3, True, "x", (1, 2), [1], {"a": []}, 10 ** 5000):
            for name, (_, attribute) in list(OTHERS.items()) + [("ParseError", (None, "spot"))]:
                error = getattr(errors, name)(value)
                self.assertIs(getattr(error, attribute), value, name)

    def test_the_others_take_one_value(self):
        for name in ("CubeError",) + DIRECT[:-1]:
            for value in ("a message", None, (1, 2), [], 7):
                error = getattr(errors, name)(value)
                self.assertEqual(error.args, (value,))
                with self.assertRaises(ValueError):
                    raise error


if __name__ == "__main__":
    unittest.main()
