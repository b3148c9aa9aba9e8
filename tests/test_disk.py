import unittest

from sumstead.disk import disk as module
from sumstead.disk.disk import Disk
from sumstead.errors import InvalidName, InvalidNumber, InvalidOperation, PowerLost, TooMany, UnknownName

from chance import Chance
from examples import Checks, odd_values


def made(*calls, power=None):
    disk = Disk(power=power)
    for name, *given in calls:
        getattr(disk, name)(*given)
    return disk


def texts(disk):
    return {name: disk.read(name) for name in disk.names}


class Disks(unittest.TestCase, Checks):
    def test_constants(self):
        self.assertEqual((module.MAX_FILES, module.MAX_TEXT), (8, 200000))

    def test_each_step(self):
        disk = Disk()
        self.assertEqual((disk.names, disk.steps, len(disk), str(disk)), ((), 0, 0, "disk of 0 files, 0 steps"))
        self.assertIsNone(disk.append("b", "one\n"))
        self.assertIsNone(disk.append("a", ""))
        self.assertIsNone(disk.append("b", "two~ "))
        self.assertEqual((disk.names, disk.read("b"), disk.read("a"), disk.steps), (("a", "b"), "one\ntwo~ ", "", 3))
        self.assertEqual((len(disk), str(disk)), (2, "disk of 2 files, 3 steps"))
        self.assertIsNone(disk.sync("b"))
        self.assertIsNone(disk.rename("b", "c"))
        self.assertIsNone(disk.remove("a"))
        self.assertIsNone(disk.sync_names())
        self.assertEqual((texts(disk), disk.steps, "c" in disk, "b" in disk, str(disk)),
                         ({"c": "one\ntwo~ "}, 7, True, False, "disk of 1 files, 7 steps"))
        self.assertRaises(TypeError, iter, disk)
        for value in odd_values():
            self.assertFalse(value in disk)
            self.assertFalse(disk == value)

    def test_renaming(self):
        disk = made(("append", "a", "x"), ("append", "b", "y"))
        disk.rename("a", "b")
        self.assertEqual(texts(disk), {"b": "x"})
        disk.rename("b", "b")
        self.assertEqual((texts(disk), disk.steps), ({"b": "x"}, 4))

    def test_wrong_arguments(self):
        disk = made(("append", "a", "x"))
        for value in odd_values() + ["b", "A", "a "]:
            for call in (disk.sync, disk.remove, disk.read):
                self.assertIs(self.assert_raises(UnknownName, call, value).asked, value)
            self.assertIs(self.assert_raises(UnknownName, disk.rename, value, None).asked, value)
            if value != "b":
                self.assert_raises(InvalidName, disk.append, value, None)
                self.assert_raises(InvalidName, disk.rename, "a", value)
            if type(value) is not str:
                self.assert_raises(InvalidOperation, disk.append, "a", value)
            if not (type(value) is int and value >= 0) and value is not None:
                self.assert_raises(InvalidNumber, lambda: Disk(power=value))
            if not (type(value) is tuple and all(type(one) is int and 0 <= one < 10 ** 60 for one in value)):
                self.assert_raises(InvalidOperation, disk.lost, value, power="x")
            elif value is not None:
                disk.lost(value)
        for text in ("a\tb", "\r", "\x7f", "\x00", "a\x1f"):
            self.assert_raises(InvalidOperation, disk.append, "a", text)
        for power in (-1, 1000001, True, "1", 10 ** 70):
            self.assertEqual(self.assert_raises(InvalidNumber, lambda: Disk(power=power)).given, power)
            self.assertEqual(self.assert_raises(InvalidNumber, disk.lost, (), power=power).given, power)
        for choices in ((-1,), (True,), [0], (0, None), (10 ** 60,), 0):
            self.assert_raises(InvalidOperation, disk.lost, choices, power=-1)
        self.assertEqual((texts(disk), disk.steps), ({"a": "x"}, 1))
        self.assertEqual(made(("append", "a", "x"), power=1000000).steps, 1)

    def test_eight_files_and_one_more(self):
        disk = Disk()
        for number in range(8):
            disk.append(f"n{number}", "x")
        self.assertEqual(self.assert_raises(TooMany, disk.append, "n8", "x" * 300000).limit, 8)
        disk.append("n7", "y")
        self.assert_raises(InvalidOperation, disk.append, "n8", "\t")
        disk.rename("n7", "n8")
        disk.rename("n0", "n1")
        disk.append("n0", "")
        self.assertEqual((len(disk), disk.read("n1"), disk.read("n8"), disk.steps), (8, "x", "xy", 12))

    def test_the_longest_text_and_one_more(self):
        disk = made(("append", "a", "x" * 199999))
        self.assertEqual(self.assert_raises(TooMany, disk.append, "a", "yy").limit, 200000)
        disk.append("a", "y")
        self.assertEqual((len(disk.read("a")), disk.steps), (200000, 2))
        disk.append("a", "")
        self.assertEqual(self.assert_raises(TooMany, disk.append, "a", "y").limit, 200000)
        self.assertEqual(self.assert_raises(TooMany, disk.append, "b", "y" * 200001).limit, 200000)

    def test_power(self):
        disk = Disk(power=0)
        self.assertEqual(self.assert_raises(PowerLost, disk.append, "a", "x").taken, 0)
        self.assertEqual(self.assert_raises(PowerLost, disk.sync_names).taken, 0)
        disk = made(("append", "a", "x"), ("append", "b", "x"), power=2)
        for call in ((disk.append, "a", "x"), (disk.sync, "a"), (disk.remove, "a"), (disk.rename, "a", "c"), (disk.sync_names,)):
            self.assertEqual(self.assert_raises(PowerLost, *call).taken, 2)
        self.assertEqual((texts(disk), disk.steps), ({"a": "x", "b": "x"}, 2))
        # behind all other errors
        self.assert_raises(InvalidName, disk.append, "A", "x")
        self.assert_raises(InvalidOperation, disk.append, "a", 3)
        self.assert_raises(TooMany, disk.append, "a", "x" * 200000)
        self.assert_raises(UnknownName, disk.sync, "c")
        self.assert_raises(UnknownName, disk.remove, "c")
        self.assert_raises(UnknownName, disk.rename, "c", "C")
        self.assert_raises(InvalidName, disk.rename, "a", "C")
        full = made(*[("append", f"n{n}", "") for n in range(8)], power=8)
        self.assertEqual(self.assert_raises(TooMany, full.append, "n9", "").limit, 8)

    def test_what_stays(self):
        disk = made(("append", "a", "one"), ("append", "b", "two"), ("sync", "a"), ("append", "a", "more"))
        self.assertEqual(texts(disk.lost()), {})
        self.assertEqual(texts(disk.lost((1,))), {"a": "one"})
        self.assertEqual(texts(disk.lost((1, 2))), {"a": "onemo"})
        self.assertEqual(texts(disk.lost((2, 4, 3))), {"a": "onemore", "b": "two"})
        # modulo one more than there are
        self.assertEqual(texts(disk.lost((5, 9, 7))), {"a": "onemore", "b": "two"})
        self.assertEqual(texts(disk.lost((3, 1, 1))), {})
        self.assertEqual(texts(disk.lost((2, 5, 4, 77, 78))), {"a": "one", "b": ""})
        self.assertEqual((texts(disk), disk.steps), ({"a": "onemore", "b": "two"}, 4))
        left = disk.lost((2, 4), power=3)
        self.assertEqual((left.steps, str(left), texts(left.lost())), (0, "disk of 2 files, 0 steps", {"a": "onemore", "b": ""}))
        left.append("a", "!"), left.append("b", "?"), left.sync("b")
        self.assertEqual(self.assert_raises(PowerLost, left.sync_names).taken, 3)
        self.assertEqual((texts(left.lost()), texts(disk)["a"]), ({"a": "onemore", "b": "?"}, "onemore"))

    def test_changes_of_names_stay_in_order(self):
        disk = made(("append", "a", "x"), ("sync", "a"), ("sync_names",), ("rename", "a", "b"), ("append", "a", "y"), ("sync", "a"),
                    ("remove", "b"))
        self.assertEqual([texts(disk.lost((many,))) for many in range(4)], [{"a": "x"}, {"b": "x"}, {"a": "y", "b": "x"}, {"a": "y"}])
        # a file that is removed and made anew is another file
        disk = made(("append", "a", "x"), ("sync", "a"), ("sync_names",), ("remove", "a"), ("append", "a", "yz"))
        self.assertEqual([texts(disk.lost((many, 1))) for many in range(3)], [{"a": "x"}, {}, {"a": "y"}])
        # onto another file, and onto itself
        disk = made(("append", "a", "x"), ("sync", "a"), ("append", "b", "y"), ("sync", "b"), ("sync_names",), ("rename", "a", "b"),
                    ("rename", "b", "b"), ("remove", "b"))
        self.assertEqual([texts(disk.lost((many,))) for many in range(4)], [{"a": "x", "b": "y"}, {"b": "x"}, {"b": "x"}, {}])

    def test_firm_names_do_not_make_texts_firm(self):
        disk = made(("append", "a", "xy"), ("sync_names",))
        self.assertEqual([texts(disk.lost((0, many))) for many in range(3)], [{"a": ""}, {"a": "x"}, {"a": "xy"}])
        disk = made(("append", "a", "xy"), ("sync", "a"))
        self.assertEqual(texts(disk.lost()), {})

    def test_what_is_firm(self):
        disk = made(("append", "a", "x"))
        self.assertEqual((disk.has_firm_text("a"), disk.has_firm_names()), (False, False))
        disk.sync("a")
        disk.sync_names()
        self.assertEqual((disk.has_firm_text("a"), disk.has_firm_names()), (True, True))
        disk.rename("a", "a")
        self.assertFalse(disk.has_firm_names())


class Second:
    """A disk, written plainly: changes of names as they came, and for each file its two texts."""

    def __init__(self, files=None):
        self.firm_names = dict(files or {})
        self.changes = []

    def names_behind(self, many):
        names = dict(self.firm_names)
        for word, one, other in self.changes[:many]:
            if word == "made":
                names[one] = other
            elif word == "removed":
                del names[one]
            else:
                names[other] = names.pop(one)
        return names

    def now(self):
        return self.names_behind(len(self.changes))

    def append(self, name, text):
        file = self.now().get(name)
        if file is None:
            file = {"firm": "", "text": ""}
            self.changes.append(("made", name, file))
        file["text"] += text

    def sync(self, name):
        file = self.now()[name]
        file["firm"] = file["text"]

    def remove(self, name):
        self.changes.append(("removed", name, None))

    def rename(self, old, new):
        self.changes.append(("renamed", old, new))

    def sync_names(self):
        self.firm_names, self.changes = self.now(), []

    def lost(self, choices):
        left = list(choices)
        names = self.names_behind((left.pop(0) if left else 0) % (len(self.changes) + 1))
        files = {}
        for name in sorted(names):
            firm, text = names[name]["firm"], names[name]["text"]
            stays = (left.pop(0) if left else 0) % (len(text) - len(firm) + 1)
            text = text[:len(firm) + stays]
            files[name] = {"firm": text, "text": text}
        return Second(files)


class Drawn(unittest.TestCase, Checks):
    def test_drawn_disks_and_losses(self):
        lost = 0
        for seed in range(200):
            chance = Chance(f"disk {seed}")
            disk, second = Disk(), Second()
            for _ in range(60):
                names = list(second.now())
                name = chance.one_of(names) if names and chance.random.random() < 0.7 else chance.one_of("abcdefgh")
                draw = chance.random.random()
                if draw < 0.35:
                    call = ("append", name, chance.one_of(("", "x", "yz", "a\nb")))
                elif draw < 0.5 and name in names:
                    call = ("sync", name)
                elif draw < 0.6 and name in names:
                    call = ("remove", name)
                elif draw < 0.8 and name in names:
                    call = ("rename", name, chance.one_of("abcdefgh"))
                elif draw < 0.85:
                    call = ("sync_names",)
                else:
                    choices = tuple(chance.random.randint(0, 9) for _ in range(chance.random.randint(0, 6)))
                    self.assertEqual(texts(disk.lost(choices)), {one: file["text"] for one, file in second.lost(choices).now().items()})
                    if chance.random.random() < 0.4:
                        disk, second = disk.lost(choices), second.lost(choices)
                        self.assertEqual(disk.steps, 0)
                        lost += 1
                    continue
                before = disk.steps
                getattr(disk, call[0])(*call[1:])
                getattr(second, call[0])(*call[1:])
                self.assertEqual((disk.steps, texts(disk)), (before + 1, {one: file["text"] for one, file in second.now().items()}))
        self.assertGreater(lost, 200)


if __name__ == "__main__":
    unittest.main()
