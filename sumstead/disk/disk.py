"""A disk with files, that can lose its power: what is firm then stays, and of the rest only a beginning."""

from sumstead.base.integers import is_between, is_passed_integer
from sumstead.base.signs import is_printable
from sumstead.base.worths import is_name
from sumstead.errors import InvalidName, InvalidNumber, InvalidOperation, PowerLost, TooMany, UnknownName

MAX_FILES = 8
MAX_TEXT = 200000

_MOST_POWER = 1000000


class DiskFile:
    """The text of a file, of which so many characters are firm."""

    def __init__(self, text, firm_count):
        self.text = text
        self.firm_count = firm_count


def _is_text(value):
    return type(value) is str and is_printable(value.replace("\n", ""))


def _are_choices(value):
    return type(value) is tuple and all([is_passed_integer(choice) and choice >= 0 for choice in value])


def _choice_at(choices, index, many):
    """The choice with an index, or 0, of so many ways."""
    return choices[index] % many if index < len(choices) else 0


class Disk:
    """Files with names; the names have one table more for each change of them that is not firm."""

    def __init__(self, *, power=None):
        if power is not None and not is_between(power, 0, _MOST_POWER):
            raise InvalidNumber(power)
        self._power = power
        self._steps = 0
        # The firm table of names, and then the table behind each later change; the last one is what is there.
        self._tables = [{}]

    @property
    def names(self):
        """The names of the files."""
        return tuple(sorted(self._tables[-1]))

    @property
    def steps(self):
        """How many steps were done."""
        return self._steps

    def _check_file(self, name):
        if name not in self:
            raise UnknownName(name)

    def _step(self):
        """Does a step, if there is power for it."""
        if self._steps == self._power:
            raise PowerLost(self._power)
        self._steps = self._steps + 1

    def _with_names(self, table):
        """Makes this the table of names that is there, by one change."""
        self._tables.append(table)

    def _other_names(self, name):
        """The table of names that is there, without one name."""
        table = self._tables[-1]
        return {one: table[one] for one in table if one != name}

    def append(self, name, text):
        """Puts a text behind that of a file, which is made if there is none."""
        if not is_name(name):
            raise InvalidName(name)
        if not _is_text(text):
            raise InvalidOperation("no text of a file")
        if name not in self and len(self) == MAX_FILES:
            raise TooMany(MAX_FILES)
        before = self.read(name) if name in self else ""
        if len(before) + len(text) > MAX_TEXT:
            raise TooMany(MAX_TEXT)
        self._step()
        if name in self:
            file = self._tables[-1][name]
            file.text = before + text
        else:
            table = self._other_names(name)
            table[name] = DiskFile(text, 0)
            self._with_names(table)

    def sync(self, name):
        """Makes the text of a file firm."""
        self._check_file(name)
        self._step()
        file = self._tables[-1][name]
        file.firm_count = len(file.text)

    def remove(self, name):
        """Takes a file away."""
        self._check_file(name)
        self._step()
        self._with_names(self._other_names(name))

    def rename(self, old, new):
        """Gives a file another name; a file that had it goes."""
        self._check_file(old)
        if not is_name(new):
            raise InvalidName(new)
        self._step()
        file = self._tables[-1][old]
        table = self._other_names(old)
        table[new] = file
        self._with_names(table)

    def sync_names(self):
        """Makes the names firm."""
        self._step()
        self._tables = [self._tables[-1]]

    def read(self, name):
        """The text of a file."""
        self._check_file(name)
        return self._tables[-1][name].text

    def has_firm_text(self, name):
        """Whether the whole text of a file is firm."""
        file = self._tables[-1][name]
        return file.firm_count == len(file.text)

    def has_firm_names(self):
        """Whether all changes of names are firm."""
        return len(self._tables) == 1

    def lost(self, choices=(), *, power=None):
        """A disk with what stays behind a loss of power."""
        if not _are_choices(choices):
            raise InvalidOperation(choices)
        found = Disk(power=power)
        table = self._tables[_choice_at(choices, 0, len(self._tables))]
        left = {}
        for index, name in enumerate(sorted(table)):
            file = table[name]
            more = _choice_at(choices, index + 1, len(file.text) - file.firm_count + 1)
            left[name] = file.text[:file.firm_count + more]
        found.put_firm(left)
        return found

    def put_firm(self, texts):
        """Puts firm texts in the place of all files."""
        self._tables = [{name: DiskFile(texts[name], len(texts[name])) for name in texts}]

    def __contains__(self, value):
        return type(value) is str and value in self._tables[-1]

    def __len__(self):
        return len(self._tables[-1])

    def __str__(self):
        return f"disk of {len(self._tables[-1])} files, {self._steps} steps"
