"""Plain values, and their texts."""

from sumstead.base.integers import MOST_PASSED, is_passed_integer
from sumstead.base.signs import DIGITS, LETTERS
from sumstead.errors import ParseError

_DEEPEST = 40
_LONGEST_WORD = 20


def _is_word(value):
    if type(value) is not str or not 1 <= len(value) <= _LONGEST_WORD or value[0] not in LETTERS:
        return False
    return all([sign in LETTERS or sign in DIGITS for sign in value])


def _is_key(value):
    return type(value) is tuple and all([_is_word(word) for word in value])


def _fits(value, room):
    """Whether the value is a plain value of at most so many brackets, one in the other."""
    if value is None or is_passed_integer(value) or _is_word(value):
        return True
    if type(value) is tuple:
        return room > 0 and all([_fits(part, room - 1) for part in value])
    if type(value) is not dict or room == 0:
        return False
    # A key is a tuple: it needs room, too.
    if len(value) > 0 and room == 1:
        return False
    return all([_is_key(key) and _fits(value[key], room - 1) for key in value])


def is_plain_value(value):
    """Whether the value is a plain value."""
    return _fits(value, _DEEPEST)


def plain_text(value):
    """The text of a plain value."""
    if value is None:
        return "-"
    if type(value) is tuple:
        return f"({' '.join([plain_text(part) for part in value])})"
    if type(value) is dict:
        parts = [f"{plain_text(key)} {plain_text(value[key])}" for key in sorted(value)]
        return "{" + " ".join(parts) + "}"
    return str(value)


class PlainReader:
    """Reads a plain value from a text, sign by sign."""

    def __init__(self, text):
        self.plain_signs = text
        self.at_sign = 0
        self.open_brackets = 0
        # Where the first key begins that is not greater than the one ahead, or None.
        self.falling_key = None

    def sign(self):
        """The next sign, or nothing at the end."""
        return self.plain_signs[self.at_sign:self.at_sign + 1]

    def refuse(self):
        """Tells that no text goes on with the next sign."""
        raise ParseError(self.at_sign)

    def take(self, signs):
        """Takes the next sign, which is one of some."""
        sign = self.sign()
        if sign == "" or sign not in signs:
            self.refuse()
        self.at_sign += 1
        return sign

    def begin_bracket(self, sign):
        """Takes a sign that opens a bracket."""
        if self.open_brackets == _DEEPEST:
            self.refuse()
        self.take(sign)
        self.open_brackets += 1

    def end_bracket(self, sign):
        """Takes a sign that closes a bracket."""
        self.take(sign)
        self.open_brackets -= 1


def _read_word(reader):
    begin = reader.at_sign
    reader.take(LETTERS)
    while reader.sign() != "" and reader.sign() in LETTERS + DIGITS:
        if reader.at_sign - begin == _LONGEST_WORD:
            reader.refuse()
        reader.take(LETTERS + DIGITS)
    return reader.plain_signs[begin:reader.at_sign]


def _pass_digits(reader, firsts):
    """Takes the digits of a number whose first one is one of some."""
    first = reader.take(firsts)
    many = 1
    while first != "0" and reader.sign() != "" and reader.sign() in DIGITS:
        if many == MOST_PASSED:
            reader.refuse()
        reader.take(DIGITS)
        many += 1


def _read_integer(reader):
    begin = reader.at_sign
    _pass_digits(reader, DIGITS)
    return int(reader.plain_signs[begin:reader.at_sign])


def _read_minus(reader):
    """Nothing, or an integer below 0."""
    begin = reader.at_sign
    reader.take("-")
    if reader.sign() == "" or reader.sign() in " )}":
        return None
    _pass_digits(reader, DIGITS[1:])
    return int(reader.plain_signs[begin:reader.at_sign])


def _read_tuple(reader, read_part):
    """A tuple of parts, each of which a function reads."""
    found = []
    reader.begin_bracket("(")
    while reader.sign() != ")":
        if len(found) > 0:
            reader.take(" ")
        found.append(read_part(reader))
    reader.end_bracket(")")
    return tuple(found)


def _read_dict(reader):
    found = {}
    last = None
    reader.begin_bracket("{")
    while reader.sign() != "}":
        if last is not None:
            reader.take(" ")
        begin = reader.at_sign
        key = _read_tuple(reader, _read_word)
        if last is not None and key <= last and reader.falling_key is None:
            reader.falling_key = begin
        reader.take(" ")
        found[key] = _read_value(reader)
        last = key
    reader.end_bracket("}")
    return found


def _read_value(reader):
    sign = reader.sign()
    if sign == "(":
        return _read_tuple(reader, _read_value)
    if sign == "{":
        return _read_dict(reader)
    if sign == "-":
        return _read_minus(reader)
    if sign != "" and sign in DIGITS:
        return _read_integer(reader)
    return _read_word(reader)


def plain_value_of(text):
    """The plain value that a text tells."""
    reader = PlainReader(text)
    value = _read_value(reader)
    if reader.sign() != "":
        reader.refuse()
    if reader.falling_key is not None:
        raise ParseError(reader.falling_key)
    return value
