"""What texts tell a shell: their pieces, the parts behind each word, and the answers."""

from sumstead.ask.grammar import question_goal
from sumstead.base.signs import DIGITS
from sumstead.base.worths import is_name, read_worth, worth_text
from sumstead.errors import ParseError
from sumstead.text.parser import Parser


class Pieces:
    """A text, and where its next piece begins."""

    def __init__(self, text):
        self.piece_text = text
        self.piece_at = 0
        self.pass_blanks()

    def pass_blanks(self):
        """Goes on to where the next piece begins, or to the end."""
        while self.piece_text[self.piece_at:self.piece_at + 1] == " ":
            self.piece_at += 1

    def is_over(self):
        """Whether there is no piece any more."""
        return self.piece_at == len(self.piece_text)

    def next_piece(self):
        """The next piece; empty at the end."""
        return self.piece_text[self.piece_at:].partition(" ")[0]

    def refuse(self):
        """Tells that the next piece cannot stand where it stands."""
        raise ParseError(self.piece_at)

    def take(self):
        """Takes the next piece."""
        piece = self.next_piece()
        self.piece_at += len(piece)
        self.pass_blanks()
        return piece

    def take_one_of(self, words):
        """Takes one of some words, or signs."""
        if self.next_piece() not in words:
            self.refuse()
        return self.take()

    def take_name(self):
        """Takes a name."""
        if not is_name(self.next_piece()):
            self.refuse()
        return self.take()

    def take_place(self, many):
        """Takes so many names."""
        return tuple([self.take_name() for _ in range(many)])

    def _worth_told(self):
        try:
            return read_worth(self.next_piece())
        except ParseError:
            raise ParseError(self.piece_at)

    def take_worth(self):
        """Takes the text of a worth, or of nothing."""
        told = self._worth_told()
        self.take()
        return told

    def take_number(self):
        """Takes a number of one or two digits, without zeros ahead."""
        piece = self.next_piece()
        if not 1 <= len(piece) <= 2 or not all([sign in DIGITS for sign in piece]):
            self.refuse()
        if len(piece) == 2 and piece[0] == "0":
            self.refuse()
        return int(self.take())

    def take_up_to(self, sign):
        """Takes all up to the next piece that is a sign, or up to the end; the text, and where it begins."""
        begin = self.piece_at
        while not self.is_over() and self.next_piece() != sign:
            self.take()
        return (self.piece_text[begin:self.piece_at], begin)

    def take_rest(self):
        """Takes all up to the end; the text, and where it begins."""
        begin = self.piece_at
        self.piece_at = len(self.piece_text)
        return (self.piece_text[begin:], begin)

    def end(self):
        """Refuses what is left."""
        if not self.is_over():
            self.refuse()


def _parsed_question(text, begin):
    """The question that a part of a text tells by the grammar, whether it is one or not."""
    try:
        return Parser(text).run([(question_goal, None)])[0]
    except ParseError as wrong:
        raise ParseError(begin + wrong.spot)


def _axis_said(pieces):
    """Takes the name of a side, and a question for it."""
    side = pieces.take_name()
    text, begin = pieces.take_up_to("/")
    question = _parsed_question(text, begin)
    pieces.take_one_of(("/",))
    return (side, question)


def _nothing_said(pieces, many):
    return ()


def _author_said(pieces, many):
    return (pieces.take_name(),)


def _place_said(pieces, many):
    return (pieces.take_place(many),)


def _put_said(pieces, many):
    place = pieces.take_place(many)
    pieces.take_one_of(("=",))
    return (place, pieces.take_worth())


def _spread_said(pieces, many):
    return _put_said(pieces, many) + (pieces.take_one_of(("even", "own")),)


def _number_said(pieces, many):
    return (pieces.take_number(),)


def _sheet_said(pieces, many):
    rows = _axis_said(pieces)
    columns = _axis_said(pieces)
    return (rows, columns, pieces.take_place(many))


def _rest_said(pieces, many):
    return pieces.take_rest()


_SAID = {
    "as": _author_said, "tell": _place_said, "put": _put_said, "spread": _spread_said, "rule": _rest_said,
    "norule": _number_said, "sheet": _sheet_said, "commit": _nothing_said, "renew": _nothing_said,
    "drop": _nothing_said, "back": _nothing_said, "forward": _nothing_said, "who": _nothing_said,
}


def parts_said(word, pieces, many):
    """The parts behind a word, for places with so many members; ParseError at the first piece that cannot stand."""
    take = _SAID[word]
    parts = take(pieces, many)
    pieces.end()
    return parts


def _place_text(place):
    return " ".join(place)


def answer_text(answer):
    """The text of an answer."""
    if answer[0] == "worth":
        return worth_text(answer[1])
    if answer[0] == "nothing":
        return "nothing"
    word, where = answer[1]
    if word == "ring":
        places = "; ".join([_place_text(place) for place in where])
        return f"#ring of {places}"
    return f"#{word} at {_place_text(where)}"
