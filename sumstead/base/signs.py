"""Signs: of which ones a text consists."""

LETTERS = "abcdefghijklmnopqrstuvwxyz"
DIGITS = "0123456789"


def is_printable(text):
    """Whether a string has printable ASCII characters alone."""
    return all([" " <= sign <= "~" for sign in text])
