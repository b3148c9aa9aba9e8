"""Holds the files of the package against the rules of the language that a script can see."""

import ast
import os
import re
import tokenize
import unittest

ROOT = os.path.dirname(os.path.dirname(os.path.abspath(__file__)))
PACKAGE = os.path.join(ROOT, "sumstead")

LIBRARY = {"heapq": ("heappush", "heappop", "heapify", "heapreplace", "heappushpop"),
           "math": ("gcd", "lcm", "isqrt", "comb", "perm", "factorial"),
           "itertools": ("product", "combinations", "permutations")}
BUILTINS = set("""len range enumerate zip min max sum abs sorted reversed int str bool list tuple dict set isinstance ord
    repr any all divmod iter type Exception ValueError TypeError KeyError IndexError LookupError ZeroDivisionError
    ArithmeticError OverflowError RuntimeError NotImplementedError AttributeError NotImplemented property
    classmethod""".split())
METHODS = set("""append clear copy count endswith extend find get index insert isalnum isalpha isdigit islower isspace
    isupper items join keys ljust lower lstrip partition pop remove replace reverse rfind rjust rpartition rsplit rstrip
    setdefault split splitlines startswith strip update upper values zfill bit_length""".split())
BUILTIN_METHODS = {name for kind in (int, str, bytes, list, tuple, dict, set, float, frozenset) for name in dir(kind)}
DUNDERS = set("""__init__ __eq__ __repr__ __str__ __len__ __enter__ __exit__ __call__ __iter__ __contains__""".split())
NEVER = set("register mro elements open input law version_info with_traceback add_note format format_map".split())
NOT_AS_VARIABLES = set("""attrgetter breakpoint builtins compile copyright credits delattr dir eval exec exit gc getattr
    globals hasattr help id importlib license locals methodcaller os quit setattr super vars sys""".split())
WORDS = set("""typing typing_extensions enum Enum IntEnum StrEnum Flag IntFlag Generic Protocol ABC ABCMeta namedtuple
    NamedTuple TypedDict TYPE_CHECKING abstractmethod dataclass overload contextmanager""".split())
NOT_ATTRIBUTES = set("""items keys values pop update append clear extend insert remove reverse setdefault sort args encode
    decode hex fromhex format""".split())
KEYWORDS = {"sorted": ("key", "reverse"), "min": ("key", "default"), "max": ("key", "default"), "sum": ("start",),
            "enumerate": ("start",), "zip": ("strict",)}
PYTHON_BUILTINS = set(dir(__builtins__) if not isinstance(__builtins__, dict) else __builtins__)


def package_files():
    found = []
    for folder, folders, files in os.walk(PACKAGE):
        folders[:] = [name for name in folders if name != "__pycache__"]
        found.extend(os.path.join(folder, name) for name in files)
    return sorted(found)


def read(path):
    with open(path, "rb") as file:
        return file.read().decode("utf-8")


def module_of(path):
    name = os.path.relpath(path, ROOT)[:-3].replace(os.sep, ".")
    return name[:-len(".__init__")] if name.endswith(".__init__") else name


FILES = package_files()
SOURCES = {path: read(path) for path in FILES}
TREES = {path: ast.parse(SOURCES[path]) for path in FILES}
MODULES = {module_of(path): path for path in FILES}


def all_nodes(kinds):
    for path in FILES:
        for node in ast.walk(TREES[path]):
            if isinstance(node, kinds):
                yield path, node


def functions(tree):
    return [node for node in ast.walk(tree) if isinstance(node, ast.FunctionDef)]


CHANGING = ("append", "extend", "pop", "insert", "remove", "clear", "update", "setdefault", "reverse", "sort")


def assigned_in(function):
    """The dict from the names that a function binds to what they are assigned, None where it is not plain to see."""
    found = {one.arg: [None] for one in function.args.args + function.args.kwonlyargs}
    for node in ast.walk(function):
        targets = []
        if isinstance(node, ast.Assign):
            targets = node.targets
        elif isinstance(node, (ast.For, ast.comprehension)):
            targets = [node.target]
        for target in targets:
            whole = isinstance(node, ast.Assign) and isinstance(target, ast.Name)
            for one in ast.walk(target):
                if isinstance(one, ast.Name) and isinstance(one.ctx, ast.Store):
                    found.setdefault(one.id, []).append(node.value if whole else None)
    return found


def is_new(value):
    """Whether an expression makes a value that nothing else holds."""
    if isinstance(value, ast.Call):
        return isinstance(value.func, ast.Name) and value.func.id in ("list", "dict", "tuple", "sorted", "set")
    if isinstance(value, ast.Subscript):
        return isinstance(value.slice, ast.Slice)
    return isinstance(value, (ast.List, ast.Dict, ast.Tuple, ast.ListComp, ast.DictComp, ast.Constant, ast.BinOp))


def walked_by(node):
    """The names, attributes and items that a loop goes over."""
    if isinstance(node, ast.Call):
        if isinstance(node.func, ast.Name) and node.func.id in ("enumerate", "zip", "reversed"):
            return [one for part in node.args for one in walked_by(part)]
        if isinstance(node.func, ast.Attribute) and node.func.attr in ("items", "keys", "values"):
            return walked_by(node.func.value)
        return []
    if isinstance(node, ast.IfExp):
        return walked_by(node.body) + walked_by(node.orelse)
    if isinstance(node, ast.BoolOp):
        return [one for part in node.values for one in walked_by(part)]
    if isinstance(node, ast.Subscript):
        return [] if isinstance(node.slice, ast.Slice) else [node]
    return [node] if isinstance(node, (ast.Name, ast.Attribute)) else []


def changes_in(statements):
    """The pairs (node, what it changes) of statements."""
    found = []
    for statement in statements:
        for node in ast.walk(statement):
            if isinstance(node, ast.Call) and isinstance(node.func, ast.Attribute) and node.func.attr in CHANGING:
                found.append((node, node.func.value))
            if isinstance(node, ast.Subscript) and isinstance(node.ctx, (ast.Store, ast.Del)):
                found.append((node, node.value))
    return found


def may_be_one(target, walked, known):
    """Whether what is changed may be what is walked, as far as one function shows."""
    def is_own(name):
        return name in known and all(value is not None and is_new(value) for value in known[name])
    if isinstance(target, ast.Attribute):
        return isinstance(walked, ast.Attribute) and walked.attr == target.attr
    if isinstance(target, ast.Name):
        if not isinstance(walked, ast.Name):
            return not is_own(target.id)
        if walked.id == target.id:
            return True
        if any(isinstance(value, ast.Name) and value.id == target.id for value in known.get(walked.id, [])):
            return True
        return not is_own(target.id) and not is_own(walked.id)
    while isinstance(target, ast.Subscript):
        target = target.value
    if isinstance(target, ast.Name) and is_own(target.id):
        return isinstance(walked, ast.Name) and walked.id == target.id
    return True


def stored_in(function):
    """What a function changes that it did not plainly create itself, as texts."""
    known = assigned_in(function)
    found = []
    for node in ast.walk(function):
        if isinstance(node, ast.Attribute) and isinstance(node.ctx, (ast.Store, ast.Del)):
            found.append(ast.unparse(node))
    for _, target in changes_in(function.body):
        while isinstance(target, ast.Subscript):
            target = target.value
        if not isinstance(target, ast.Name) or not all(value is not None and is_new(value) for value in known.get(target.id, [None])):
            found.append(ast.unparse(target))
    return found


def functions_at(path):
    """The functions that a file's names stand for, its own and imported ones."""
    found = {node.name: (path, node) for node in TREES[path].body if isinstance(node, ast.FunctionDef)}
    for node in TREES[path].body:
        if isinstance(node, ast.ImportFrom) and node.module in MODULES:
            for one in TREES[MODULES[node.module]].body:
                if isinstance(one, ast.FunctionDef) and one.name in [name.name for name in node.names]:
                    found[one.name] = (MODULES[node.module], one)
    return found


def all_methods():
    """The dict from the names of methods to all methods of this name."""
    found = {}
    for path, kind in all_nodes(ast.ClassDef):
        for one in kind.body:
            if isinstance(one, ast.FunctionDef):
                found.setdefault(one.name, []).append((path, one))
    return found


def called_by(function, known, methods):
    """The functions and methods that a function may call: functions by its file's names, methods by any class."""
    found = []
    for node in ast.walk(function):
        if isinstance(node, ast.Call) and isinstance(node.func, ast.Name) and node.func.id in known:
            found.append(known[node.func.id])
        if isinstance(node, ast.Call) and isinstance(node.func, ast.Attribute) and node.func.attr not in METHODS:
            found.extend(methods.get(node.func.attr, []))
    return found


class Language(unittest.TestCase):
    def assert_none(self, found):
        self.assertEqual([f"{os.path.relpath(path, ROOT)}:{getattr(node, 'lineno', node)} {why}"
                          for path, node, why in found], [])

    def test_files_l1_l14(self):
        self.assertLessEqual(len(FILES), 100)
        for path in FILES:
            name = os.path.basename(path)
            self.assertRegex(name, r"\A(__init__|[a-z][a-z0-9_]*)\.py\Z", path)
            self.assertNotIn(name[:-3], PYTHON_BUILTINS)
            self.assertNotRegex(name, r"\A(law_.*|tests?|testing|test_.*|site|conftest|sitecustomize)\.py")
            self.assertNotIn(name[:-3], WORDS | NEVER)
            self.assertFalse(os.path.isdir(path[:-3]), path)
        for folder, folders, files in os.walk(PACKAGE):
            folders[:] = [name for name in folders if name != "__pycache__"]
            self.assertIn("__init__.py", files, folder)

    def test_characters_l14(self):
        for path in FILES:
            for number, line in enumerate(SOURCES[path].split("\n"), 1):
                self.assertTrue(all(" " <= sign <= "~" for sign in line), (path, number))

    def test_sizes_l10(self):
        for path in FILES:
            lines = SOURCES[path].split("\n")
            self.assertLessEqual(len(lines), 400, path)
            self.assertTrue(SOURCES[path].endswith("\n"))
            self.assertLessEqual(max(len(line) for line in lines), 120, path)
            for node in functions(TREES[path]):
                begin = min([node.lineno] + [mark.lineno for mark in node.decorator_list])
                self.assertLessEqual(node.end_lineno - begin + 1, 40, (path, node.name))

    def test_imports_l2_l16(self):
        found = []
        imported = {}
        for path in FILES:
            for at, node in enumerate(TREES[path].body):
                if isinstance(node, ast.ImportFrom):
                    ahead = TREES[path].body[:at]
                    if not all(isinstance(one, (ast.ImportFrom, ast.Expr)) for one in ahead):
                        found.append((path, node, "an import below other statements"))
        for path, node in all_nodes((ast.Import, ast.ImportFrom)):
            if isinstance(node, ast.Import):
                found.append((path, node, "import without from"))
                continue
            if node.level or any(name.asname or name.name == "*" for name in node.names):
                found.append((path, node, "form of import"))
            if node not in TREES[path].body:
                found.append((path, node, "import inside"))
            if node.module in LIBRARY:
                if not all(name.name in LIBRARY[node.module] for name in node.names):
                    found.append((path, node, "library"))
            elif node.module not in MODULES:
                found.append((path, node, "no module of the package"))
            else:
                imported.setdefault(module_of(path), set()).add(node.module)
                bound = self.bound_by(TREES[MODULES[node.module]])
                if not all(name.name in bound for name in node.names):
                    found.append((path, node, "not the file that defines the name"))
        self.assert_none(found)
        self.assert_no_circle(imported)

    def assert_no_circle(self, imported):
        reached = {module: set(modules) for module, modules in imported.items()}
        for module, modules in reached.items():
            for one in list(modules):
                parts = one.split(".")
                modules.update(".".join(parts[:many]) for many in range(1, len(parts)))
        for _ in reached:
            for module in reached:
                for one in list(reached[module]):
                    reached[module] |= reached.get(one, set())
        self.assertEqual([module for module in reached if module in reached[module]], [])

    def bound_by(self, tree):
        bound = []
        for node in tree.body:
            if isinstance(node, (ast.FunctionDef, ast.ClassDef)):
                bound.append(node.name)
            elif isinstance(node, ast.Assign):
                bound.extend(target.id for target in node.targets)
        return bound

    def test_module_level_l3_l15(self):
        found = []
        for path in FILES:
            names = []
            for node in TREES[path].body:
                if isinstance(node, ast.Expr):
                    if not (isinstance(node.value, ast.Constant) and isinstance(node.value.value, str)):
                        found.append((path, node, "statement at module level"))
                elif isinstance(node, ast.Assign):
                    if len(node.targets) != 1 or not isinstance(node.targets[0], ast.Name):
                        found.append((path, node, "assignment at module level"))
                    names.append(node.targets[0].id)
                    if not self.is_plain(node.value, names):
                        found.append((path, node, "value at module level"))
                elif isinstance(node, (ast.FunctionDef, ast.ClassDef)):
                    names.append(node.name)
                elif isinstance(node, ast.ImportFrom):
                    names.extend(name.name for name in node.names)
                else:
                    found.append((path, node, "statement at module level"))
            if len(set(names)) != len(names):
                found.append((path, 1, "a name is bound twice"))
        for path, node in all_nodes(ast.ClassDef):
            if node not in TREES[path].body:
                found.append((path, node, "a class inside"))
        self.assert_none(found)

    def is_plain(self, value, names, inside=False):
        if isinstance(value, ast.Constant):
            return isinstance(value.value, (int, str, bytes, bool, type(None)))
        if isinstance(value, ast.UnaryOp):
            return self.is_plain(value.operand, names, inside)
        if isinstance(value, ast.Name):
            return inside and value.id in names
        if isinstance(value, ast.Tuple):
            return all(self.is_plain(part, names, True) for part in value.elts)
        if isinstance(value, ast.List):
            return not inside and all(self.is_plain(part, names, True) for part in value.elts)
        if isinstance(value, ast.Dict):
            return not inside and all(self.is_plain(part, names, True) for part in value.keys + value.values)
        return False

    def test_statements_l4_l6(self):
        # The package does without some statements that the language lets in.
        barred = (ast.AsyncFunctionDef, ast.AsyncFor, ast.AsyncWith, ast.Await, ast.Global, ast.SetComp,
                  ast.AnnAssign, ast.Lambda, ast.NamedExpr, ast.With, ast.Match, ast.Nonlocal)
        found = [(path, node, type(node).__name__) for path, node in all_nodes(barred)]
        for path, node in all_nodes(ast.FunctionDef):
            for mark in node.decorator_list:
                if not isinstance(mark, ast.Name) or mark.id not in ("property", "classmethod"):
                    found.append((path, node, "decorator"))
            for default in node.args.defaults + [one for one in node.args.kw_defaults if one is not None]:
                if not self.is_plain(default, []):
                    found.append((path, node, "default"))
            if node.returns or any(one.annotation for one in node.args.args + node.args.kwonlyargs):
                found.append((path, node, "annotation"))
        for path, node in all_nodes(ast.ClassDef):
            if node.decorator_list or node.keywords:
                found.append((path, node, "class"))
            if not all(isinstance(one, (ast.FunctionDef, ast.Expr)) for one in node.body):
                found.append((path, node, "body of a class"))
        self.assert_none(found)

    def test_classes_l5_l12_l18(self):
        found = []
        methods, properties, class_methods, attributes = {}, {}, {}, {}
        for path, node in all_nodes(ast.ClassDef):
            if not node.name[0].isalpha():
                found.append((path, node, "name of a class"))
            own = []
            for one in node.body:
                if isinstance(one, ast.FunctionDef):
                    own.append(one.name)
                    word = ast.unparse(one.decorator_list[0]) if one.decorator_list else ""
                    table = {"property": properties, "classmethod": class_methods, "": methods}[word]
                    table.setdefault(one.name, []).append((path, one))
                    if one.name.startswith("__") and one.name not in DUNDERS:
                        found.append((path, one, "double underscores"))
            if len(set(own)) != len(own):
                found.append((path, node, "a method twice"))
            for one in ast.walk(node):
                if isinstance(one, ast.Attribute) and isinstance(one.ctx, ast.Store):
                    attributes.setdefault(one.attr, []).append((path, one))
                    if one.attr in own:
                        found.append((path, one, "a method and an attribute"))
        for name in properties:
            if name in methods or name in attributes or name in BUILTIN_METHODS:
                found.append(properties[name][0] + (f"property {name}",))
        for name in attributes:
            if name in NOT_ATTRIBUTES or name in methods:
                found.append(attributes[name][0] + (f"attribute {name}",))
        for name in class_methods:
            if name in methods or name in attributes or name in properties or name in BUILTIN_METHODS:
                found.append(class_methods[name][0] + (f"class method {name}",))
        for path, node in all_nodes(ast.Attribute):
            known = set(methods) | set(properties) | set(class_methods) | set(attributes) | METHODS
            if node.attr not in known:
                found.append((path, node, f"unknown attribute {node.attr}"))
            if node.attr in BUILTIN_METHODS - METHODS and node.attr not in methods:
                found.append((path, node, f"method {node.attr}"))
        self.assert_none(found)

    def test_iteration_l5(self):
        for path, node in all_nodes(ast.FunctionDef):
            if node.name == "__iter__":
                self.assertRegex(ast.unparse(node.body[-1]), r"\Areturn iter\(self\.\w+\)\Z")
                self.assertEqual(len(node.body), 1)

    def test_dunder_returns_l28(self):
        found = []
        for path, node in all_nodes(ast.FunctionDef):
            returns = [one.value for one in ast.walk(node) if isinstance(one, ast.Return)]
            if node.name == "__init__" and returns:
                found.append((path, node, "__init__ returns"))
            if node.name == "__len__" and not all(ast.unparse(one).startswith("len(") for one in returns):
                found.append((path, node, "__len__"))
            if node.name == "__str__" and not all(isinstance(one, ast.JoinedStr) for one in returns):
                found.append((path, node, "__str__"))
            if node.name in ("__len__", "__str__") and not isinstance(node.body[-1], ast.Return):
                found.append((path, node, "no return at the end"))
        self.assert_none(found)

    def test_operators_and_properties_change_nothing_l5_l28(self):
        found, seen, left = [], {}, []
        known, methods = {path: functions_at(path) for path in FILES}, all_methods()
        for path, node in all_nodes(ast.ClassDef):
            for one in node.body:
                marks = [ast.unparse(mark) for mark in one.decorator_list] if isinstance(one, ast.FunctionDef) else []
                if isinstance(one, ast.FunctionDef) and ("property" in marks or one.name in DUNDERS - {"__init__", "__iter__", "__call__"}):
                    left.append((path, one))
        while left:
            path, node = left.pop()
            if id(node) not in seen:
                seen[id(node)] = True
                found.extend((path, node, f"changes {text}") for text in stored_in(node))
                left.extend(called_by(node, known[path], methods))
        self.assertGreater(len(seen), 150)
        self.assert_none(found)

    def test_expressions_l7_l20_l22(self):
        found = []
        for path, node in all_nodes((ast.GeneratorExp, ast.Set, ast.Div, ast.Pow, ast.MatMult)):
            found.append((path, getattr(node, "lineno", 0) and node or 0, type(node).__name__))
        for path, node in all_nodes(ast.Constant):
            if isinstance(node.value, (float, complex, bytes)):
                found.append((path, node, "a number or bytes"))
        for path, node in all_nodes(ast.Compare):
            for sign, right in zip(node.ops, node.comparators):
                if isinstance(sign, (ast.Is, ast.IsNot)):
                    of_none = isinstance(right, ast.Constant) and right.value in (None, True, False)
                    of_type = ast.unparse(node.left).startswith("type(") and (
                        isinstance(right, ast.Name) or isinstance(sign, ast.Is) and ast.unparse(right).startswith("type("))
                    if not of_none and not of_type:
                        found.append((path, node, "is"))
        for path, node in all_nodes(ast.Call):
            if isinstance(node.func, ast.Name) and node.func.id in PYTHON_BUILTINS:
                for keyword in node.keywords:
                    if keyword.arg not in KEYWORDS.get(node.func.id, ()):
                        found.append((path, node, "keyword of a builtin"))
            if isinstance(node.func, ast.Attribute) and node.func.attr in METHODS and node.keywords:
                found.append((path, node, "keyword of a method"))
        self.assert_none(found)

    def test_iterated_at_once_l23_l24(self):
        found = []
        for path in FILES:
            above = {}
            for node in ast.walk(TREES[path]):
                for child in ast.iter_child_nodes(node):
                    above[child] = node
            for node in ast.walk(TREES[path]):
                if not isinstance(node, ast.Call) or not isinstance(node.func, ast.Name):
                    continue
                outer = above[node]
                if node.func.id in ("zip", "enumerate", "reversed", "range"):
                    in_loop = isinstance(outer, (ast.For, ast.comprehension)) and outer.iter is node
                    in_call = isinstance(outer, ast.Call) and ast.unparse(outer.func) in ("list", "tuple", "sorted")
                    if not in_loop and not in_call:
                        found.append((path, node, "not iterated at once"))
                if node.func.id == "set":
                    in_call = isinstance(outer, ast.Call) and ast.unparse(outer.func) in ("len", "sorted")
                    if not in_call or outer.keywords:
                        found.append((path, node, "a set"))
        self.assert_none(found)

    def test_loops_change_nothing_they_go_over_l23(self):
        found = []
        for path, node in all_nodes(ast.FunctionDef):
            known = assigned_in(node)
            for loop in [one for one in ast.walk(node) if isinstance(one, ast.For)]:
                for one, target in changes_in(loop.body + loop.orelse):
                    if any(may_be_one(target, walked, known) for walked in walked_by(loop.iter)):
                        found.append((path, one, f"may change what is walked: {ast.unparse(target)}"))
        self.assert_none(found)

    def test_the_check_of_loops_sees_what_it_should(self):
        for text, wrong in (
                ("for x in self.a:\n  self.b[x].append(1)", True), ("for x in list(self.a):\n  self.b[x].append(1)", False),
                ("a = [1]\nwhile a:\n  b = []\n  for x in a:\n    b.append(x)\n  a = b", True),
                ("a = [1]\nb = []\nfor x in a:\n  b.append(x)", False), ("for x in self.a:\n  self.a.append(x)", True),
                ("for x, y in zip(a, self.a):\n  self.a[x] = y", True), ("for x in self.a:\n  self.b[x] = 1", False),
                ("for x in a if a else b:\n  b.append(x)", True), ("for x in (p or q):\n  q[x] = 1", True),
                ("a = b\nfor x in a:\n  b[x] = 1", True)):
            tree = ast.parse("def f(self, p, q):\n" + "\n".join("  " + line for line in text.split("\n")))
            known = assigned_in(tree.body[0])
            seen = [target for loop in ast.walk(tree) if isinstance(loop, ast.For)
                    for _, target in changes_in(loop.body) for walked in walked_by(loop.iter)
                    if may_be_one(target, walked, known)]
            self.assertEqual(len(seen) > 0, wrong, text)

    def test_errors_l19(self):
        own = {node.name for node in TREES[MODULES["sumstead.errors"]].body if isinstance(node, ast.ClassDef)}
        found = []
        for path, node in all_nodes(ast.ExceptHandler):
            kinds = node.type.elts if isinstance(node.type, ast.Tuple) else [node.type]
            if not all(isinstance(kind, ast.Name) and kind.id in own for kind in kinds):
                found.append((path, node, "what is caught"))
        for path, node in all_nodes(ast.Raise):
            if node.exc is None:
                continue
            if not isinstance(node.exc, ast.Call) or ast.unparse(node.exc.func) not in own or node.cause:
                found.append((path, node, "what is raised"))
            elif len(node.exc.args) != 1 or node.exc.keywords:
                found.append((path, node, "arguments of an error"))
        self.assert_none(found)

    def test_names_l8_l12_l15_l17(self):
        found = []
        for path in FILES:
            top = {one.name for one in TREES[path].body if isinstance(one, ast.ClassDef)}
            for one in TREES[path].body:
                if isinstance(one, ast.ImportFrom):
                    top |= {name.name for name in one.names}
            for node in ast.walk(TREES[path]):
                bound = []
                if isinstance(node, ast.Name) and isinstance(node.ctx, (ast.Store, ast.Del)):
                    bound.append(node.id)
                if isinstance(node, ast.arg):
                    bound.append(node.arg)
                if isinstance(node, ast.ExceptHandler) and node.name:
                    bound.append(node.name)
                if any(name in top for name in bound):
                    found.append((path, node, f"{bound} is a class or an import"))
                if isinstance(node, ast.FunctionDef) and node in TREES[path].body or isinstance(node, ast.ClassDef):
                    bound.append(node.name)
                for name in bound:
                    if name in PYTHON_BUILTINS | NEVER | NOT_AS_VARIABLES or not re.match(r"_?[A-Za-z]|_\Z", name):
                        found.append((path, node, f"name {name}"))
                    if re.match(r"_(wall|pe_|dcw_|enum_|cm_|twin_re_|lay_|law_|stub_|sre|WallAttr)", name):
                        found.append((path, node, f"name {name}"))
                if isinstance(node, ast.Attribute) and node.attr in NEVER:
                    found.append((path, node, f"attribute {node.attr}"))
                if isinstance(node, ast.Name) and isinstance(node.ctx, ast.Load):
                    if node.id in PYTHON_BUILTINS and node.id not in BUILTINS:
                        found.append((path, node, f"builtin {node.id}"))
                    if node.id == "_":
                        found.append((path, node, "_ is read"))
                if isinstance(node, ast.FunctionDef) and any(
                        isinstance(one, (ast.FunctionDef, ast.ClassDef)) and one is not node for one in ast.walk(node)):
                    found.append((path, node, "a nested function"))
        self.assert_none(found)

    def test_words_l12_l17_l27(self):
        for path in FILES:
            self.assertNotIn("_wall", SOURCES[path])
            self.assertNotIn("_WallAttr", SOURCES[path])
            with open(path, "rb") as file:
                for token in tokenize.tokenize(file.readline):
                    if token.type == tokenize.COMMENT:
                        continue
                    if token.type == tokenize.STRING or "FSTRING" in tokenize.tok_name[token.type]:
                        self.assertNotIn("%", token.string, (path, token.start))
                        for escape in re.findall(r"\\.", token.string):
                            self.assertIn(escape, ("\\n", "\\t", "\\\\", "\\'", '\\"'))
                        if token.string.startswith('"""'):
                            continue
                    for word in re.findall(r"\w+", token.string):
                        self.assertNotIn(word, WORDS, (path, token.start))
            for node in ast.walk(TREES[path]):
                if isinstance(node, ast.Name) and node.id == "type":
                    self.assertIn("type(", SOURCES[path].split("\n")[node.lineno - 1])
        for path, node in all_nodes(ast.Call):
            if isinstance(node.func, ast.Name):
                self.assertNotIn(node.func.id, ("print", "chr", "open", "bytes", "pow", "getattr", "hasattr", "map"))

    def test_dicts_at_module_level_are_only_read_l15(self):
        found = []
        for path in FILES:
            tables = {node.targets[0].id for node in TREES[path].body
                      if isinstance(node, ast.Assign) and isinstance(node.value, (ast.Dict, ast.List))}
            for node in ast.walk(TREES[path]):
                for child in ast.iter_child_nodes(node):
                    if not isinstance(child, ast.Name) or child.id not in tables or isinstance(child.ctx, ast.Store):
                        continue
                    read = isinstance(node, (ast.Subscript, ast.Compare)) or (
                        isinstance(node, ast.Attribute) and node.attr == "get")
                    if not read or isinstance(node, ast.Subscript) and not isinstance(node.ctx, ast.Load):
                        found.append((path, child, "a table is not read"))
                if isinstance(node, ast.Call) and isinstance(node.func, ast.Subscript):
                    found.append((path, node, "a table is called"))
        self.assert_none(found)

    def test_generators_l23(self):
        generators = {node.name for path, node in all_nodes(ast.FunctionDef)
                      if any(isinstance(one, (ast.Yield, ast.YieldFrom)) for one in ast.walk(node))}
        self.assertEqual(generators, {"places", "leaf_places"})
        named = [node.name for path, node in all_nodes(ast.FunctionDef) if node.name in generators]
        self.assertEqual(sorted(named), sorted(generators))
        for path in FILES:
            above = {child: node for node in ast.walk(TREES[path]) for child in ast.iter_child_nodes(node)}
            for node in ast.walk(TREES[path]):
                if isinstance(node, ast.Attribute) and node.attr in generators:
                    call = above[node]
                    outer = above[call]
                    self.assertIsInstance(call, ast.Call)
                    self.assertTrue(isinstance(outer, (ast.For, ast.comprehension)), (path, node.lineno))


if __name__ == "__main__":
    unittest.main()
