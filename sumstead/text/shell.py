"""A shell: questions and deeds, told as texts, that it puts to a line by sandboxes, one for each author."""

from sumstead.ask.sheets import Sheet
from sumstead.base.signs import is_printable
from sumstead.errors import CubeError, InvalidNumber, InvalidOperation, NothingToUndo, ParseError, Refused
from sumstead.errors import TooMany, UnknownName
from sumstead.hands.sandboxes import Sandbox
from sumstead.text.rules import read_rule
from sumstead.text.saying import Pieces, answer_text, parts_said
from sumstead.write.spreads import spread

MAX_LINE = 2000
SHELL_WORDS = ("as", "back", "commit", "drop", "forward", "norule", "put", "renew", "rule", "sheet", "spread", "tell",
               "who")

_MOST_TEXTS = 100
_FIRST_AUTHOR = "me"
_OK = "ok"


def _is_said(value):
    """Whether the value is a text that can be said."""
    return type(value) is str and len(value) <= MAX_LINE and is_printable(value)


def _rule_told(outline, text, begin):
    """The rule that a part of a text tells."""
    try:
        return read_rule(outline, text)
    except ParseError as wrong:
        raise ParseError(begin + wrong.spot)


class Shell:
    """A line, and a sandbox on it for each author."""

    def __init__(self, line):
        # A sandbox refuses what is no line.
        self._sandboxes = {_FIRST_AUTHOR: Sandbox(line, _FIRST_AUTHOR)}
        self._line = line
        self._author = _FIRST_AUTHOR
        self._said = 0

    @property
    def author(self):
        """The present author."""
        return self._author

    @property
    def authors(self):
        """All authors that have a sandbox."""
        return tuple(sorted(self._sandboxes))

    @property
    def cube(self):
        """The cube of the sandbox of the present author."""
        return self._sandboxes[self._author].cube

    @property
    def said(self):
        """How many texts were said."""
        return self._said

    def say(self, text):
        """Does what a text tells; the answer."""
        if not _is_said(text):
            raise InvalidOperation("no text to be said")
        self._said = self._said + 1
        return self._answer_to(text)

    def run(self, texts):
        """Says texts, one after the other; the answers."""
        if type(texts) is not tuple or len(texts) > _MOST_TEXTS or not all([_is_said(text) for text in texts]):
            raise InvalidOperation("no texts to be said")
        return tuple([self.say(text) for text in texts])

    def _answer_to(self, text):
        try:
            return self._do(Pieces(text))
        except ParseError as wrong:
            return f"wrong at {wrong.spot}"
        except Refused as refusal:
            return f"refused {refusal.reason[0]}"
        except TooMany as bound:
            return f"too many {bound.limit}"
        except NothingToUndo:
            return "no more"
        except (CubeError, InvalidNumber, UnknownName):
            return "invalid"

    def _do(self, pieces):
        if pieces.is_over():
            return ""
        word = pieces.take_one_of(SHELL_WORDS)
        parts = parts_said(word, pieces, len(self.cube.outline))
        do = _DOERS[word]
        return do(self, self._sandboxes[self._author], parts)

    def turn_to(self, author):
        """Makes an author the present one; the sandbox."""
        if author not in self._sandboxes:
            self._sandboxes[author] = Sandbox(self._line, author)
        self._author = author
        return self._sandboxes[author]

    def begin_anew(self):
        """Gives the present author a new sandbox."""
        self._sandboxes[self._author] = Sandbox(self._line, self._author)

    def go_back(self):
        """Makes the number ahead of the present one present."""
        return self._line.back()

    def go_forward(self):
        """Makes the number behind the present one present."""
        return self._line.forward()

    def __contains__(self, value):
        return type(value) is str and value in self._sandboxes

    def __len__(self):
        return len(self._sandboxes)

    def __str__(self):
        return f"shell of {len(self._sandboxes)} authors, at {self._line.present}"


def _do_as(shell, sandbox, parts):
    turned = shell.turn_to(parts[0])
    return f"{turned.author} on {turned.base}"


def _do_tell(shell, sandbox, parts):
    return answer_text(sandbox.answer(parts[0]))


def _do_put(shell, sandbox, parts):
    place, worth = parts
    sandbox.write({place: worth})
    return _OK


def _do_spread(shell, sandbox, parts):
    place, total, way = parts
    changes = spread(sandbox.cube, place, total, (way,))
    sandbox.write(changes)
    return str(len(changes))


def _do_rule(shell, sandbox, parts):
    text, begin = parts
    rules = sandbox.cube.rules
    sandbox.put_rules(rules + (_rule_told(sandbox.cube.outline, text, begin),))
    return f"rule {len(rules)}"


def _do_norule(shell, sandbox, parts):
    rules = sandbox.cube.rules
    if parts[0] >= len(rules):
        raise InvalidNumber(parts[0])
    sandbox.put_rules(rules[:parts[0]] + rules[parts[0] + 1:])
    return _OK


def _do_sheet(shell, sandbox, parts):
    rows, columns, place = parts
    return "\n".join(Sheet(sandbox.cube, place, rows, columns).lines)


def _do_commit(shell, sandbox, parts):
    return str(sandbox.commit())


def _do_renew(shell, sandbox, parts):
    return str(sandbox.renew())


def _do_drop(shell, sandbox, parts):
    shell.begin_anew()
    return _OK


def _do_back(shell, sandbox, parts):
    return str(shell.go_back())


def _do_forward(shell, sandbox, parts):
    return str(shell.go_forward())


def _do_who(shell, sandbox, parts):
    return " ".join(shell.authors)


_DOERS = {
    "as": _do_as, "back": _do_back, "commit": _do_commit, "drop": _do_drop, "forward": _do_forward,
    "norule": _do_norule, "put": _do_put, "renew": _do_renew, "rule": _do_rule, "sheet": _do_sheet,
    "spread": _do_spread, "tell": _do_tell, "who": _do_who,
}
