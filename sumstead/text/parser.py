"""A parser that works off goals.

A goal is a pair of a function and what is given to it. The function looks at the next token, and takes
it, sets further goals, or makes values of the last values that were made. No goal calls another one, so
texts may be as long, and as deep, as they are.
"""

from sumstead.base.worths import is_name, read_worth
from sumstead.errors import ParseError
from sumstead.text.tokens import END, MOST_SIGNS, NUMBER, WORD, tokens_of

MOST_OPEN = 64


class Parser:
    """The tokens of a text, the goals that are left, and the values that were made."""

    def __init__(self, text):
        if type(text) is not str or len(text) > MOST_SIGNS:
            raise ParseError(None)
        self.tokens = tokens_of(text)
        self.seen_tokens = 0
        self.open_signs = 0
        self.goals = []
        self.made = []

    def next_kind(self):
        """The kind of the next token."""
        return self.tokens[self.seen_tokens][0]

    def next_text(self):
        """The next token as it stands in the text."""
        return self.tokens[self.seen_tokens][1]

    def text_behind(self):
        """The token behind the next one, which is not the end."""
        return self.tokens[self.seen_tokens + 1][1]

    def next_index(self):
        """Where the next token begins in the text."""
        return self.tokens[self.seen_tokens][2]

    def refuse(self):
        """Tells that no text goes on with the next token."""
        raise ParseError(self.next_index())

    def take(self):
        """Takes the next token."""
        text = self.next_text()
        if text == "(" or text == "[":
            if self.open_signs == MOST_OPEN:
                self.refuse()
            self.open_signs += 1
        if text == ")" or text == "]":
            self.open_signs -= 1
        self.seen_tokens += 1
        return text

    def aim(self, goals):
        """Sets goals, the first one to be worked off first."""
        self.goals.extend(goals[::-1])

    def run(self, goals):
        """Works off goals up to the end of the text; the values that were made."""
        self.aim(goals)
        while len(self.goals) > 0:
            goal, given = self.goals.pop()
            goal(self, given)
        if self.next_kind() != END:
            self.refuse()
        return self.made


def take_sign(parser, text):
    """Takes one sign, or word."""
    if parser.next_text() != text:
        parser.refuse()
    parser.take()


def take_name(parser, given):
    """Makes a name."""
    if not is_name(parser.next_text()):
        parser.refuse()
    parser.made.append(parser.take())


def take_names(parser, given):
    """Puts a name, and all that follow it, into the list that was made last."""
    if not is_name(parser.next_text()):
        parser.refuse()
    parser.made[-1].append(parser.take())
    if parser.next_kind() == WORD:
        parser.aim([(take_names, None)])


def _number_told(parser):
    try:
        return read_worth(parser.next_text())
    except ParseError as wrong:
        raise ParseError(parser.next_index() + wrong.spot)


def take_number(parser, given):
    """Makes a worth."""
    if parser.next_kind() != NUMBER:
        parser.refuse()
    told = _number_told(parser)
    parser.take()
    parser.made.append(told)


def take_integer(parser, given):
    """Makes an integer."""
    if "/" in parser.next_text():
        parser.refuse()
    take_number(parser, None)
    parser.made.append(parser.made.pop()[0])


def begin_list(parser, given):
    """Makes an empty list."""
    parser.made.append([])


def put_in_list(parser, given):
    """Puts the last value into the list that was made ahead of it."""
    value = parser.made.pop()
    parser.made[-1].append(value)


def make(parser, given):
    """Makes a tuple of a word and the last values."""
    word, many = given
    begin = len(parser.made) - many
    parts = parser.made[begin:]
    del parser.made[begin:]
    parser.made.append((word, *parts))
