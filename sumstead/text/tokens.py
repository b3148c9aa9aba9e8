"""Tokens: the words, numbers and signs of a text."""

MOST_SIGNS = 50000

WORD = "word"
NUMBER = "number"
SIGN = "sign"
END = "end"

_LETTERS = "abcdefghijklmnopqrstuvwxyz"
_DIGITS = "0123456789"


def _end_of(text, begin, signs):
    """Where the longest run of some signs ends."""
    end = begin
    while end < len(text) and text[end] in signs:
        end += 1
    return end


def _is_digit_at(text, index):
    return index < len(text) and text[index] in _DIGITS


def _number_end(text, begin):
    end = _end_of(text, begin + 1, _DIGITS)
    if text[end:end + 1] == "/" and _is_digit_at(text, end + 1):
        return _end_of(text, end + 1, _DIGITS)
    return end


def _token_at(text, begin):
    """The kind of the token that begins at an index, and where it ends."""
    if text[begin] in _LETTERS:
        return (WORD, _end_of(text, begin, _LETTERS + _DIGITS))
    if text[begin] in _DIGITS or (text[begin] == "-" and _is_digit_at(text, begin + 1)):
        return (NUMBER, _number_end(text, begin))
    return (SIGN, begin + 1)


def tokens_of(text):
    """The triples (kind, text, index) of all tokens, with one for the end of the text."""
    found = []
    at = 0
    while at < len(text):
        if text[at] == " ":
            at += 1
            continue
        kind, end = _token_at(text, at)
        found.append((kind, text[at:end], at))
        at = end
    found.append((END, "", len(text)))
    return found
