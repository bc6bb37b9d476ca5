"""Holds the package's files against the rules of the language that a reading of their text and trees can show."""

import ast
import builtins
import pathlib
import re
import unittest

PACKAGE = pathlib.Path(__file__).resolve().parent.parent / "cutstand"

CALLED = """len range enumerate zip min max sum abs sorted reversed int str bool list tuple dict set frozenset isinstance
ord repr any all divmod""".split()
ERRORS = """Exception ValueError TypeError KeyError IndexError LookupError ZeroDivisionError ArithmeticError
OverflowError RuntimeError NotImplementedError AttributeError StopIteration""".split()
METHODS = """append clear copy count endswith extend find get index insert isalnum isalpha isdigit islower isspace isupper
items join keys ljust lower lstrip partition pop remove replace reverse rfind rjust rpartition rsplit rstrip setdefault
split splitlines startswith strip update upper values zfill bit_length""".split()
SPECIAL = "__init__ __eq__ __repr__ __str__ __len__".split()
BANNED_NAMES = """register mro elements open input version_info with_traceback add_note attrgetter breakpoint builtins
compile copyright credits delattr dir eval exec exit gc getattr globals hasattr help id importlib license locals
methodcaller os quit setattr super type vars sys format format_map chr print""".split()
BANNED_WORDS = """type typing typing_extensions enum Enum IntEnum StrEnum Flag IntFlag Generic Protocol ABC ABCMeta
namedtuple NamedTuple TypedDict TYPE_CHECKING abstractmethod""".split()
BANNED_PARTS = ("dataclass", "overload", "contextmanager")
NODES = """Module FunctionDef ClassDef arguments arg ImportFrom alias Assign AugAssign If While For Return Break Continue
Pass Raise Try ExceptHandler Expr Call Name Attribute Subscript Slice Constant List Tuple Dict Set ListComp comprehension
Lambda IfExp BoolOp BinOp UnaryOp Compare JoinedStr FormattedValue keyword Load Store And Or Not Add Sub Mult FloorDiv Mod
Pow USub UAdd Invert BitAnd BitOr BitXor LShift RShift Eq NotEq Lt LtE Gt GtE Is IsNot In NotIn""".split()
KEYWORDS = {"sorted": ["key", "reverse"], "min": ["key", "default"], "max": ["key", "default"], "sum": ["start"],
            "enumerate": ["start"], "zip": ["strict"]}

FREE_ERRORS = "KeyError ZeroDivisionError StopIteration".split()
WALKED = "zip enumerate reversed range items keys values".split()


def text_faults(text):
    rows = text.split("\n")
    if len(rows) > 401:
        yield "L10 file of more than 400 lines"
    for n, row in enumerate(rows, start=1):
        if len(row) > 120:
            yield f"L10 line {n} too long"
        if re.search(r"[^ -~]", row):
            yield f"L14 line {n} has an odd sign"
        for word in re.findall(r"\w+", row):
            if word in BANNED_WORDS or any(part in word for part in BANNED_PARTS):
                yield f"L17 line {n} has the word {word}"


def node_faults(node):
    kind = node.__class__.__name__
    where = getattr(node, "lineno", 0)
    if kind not in NODES:
        yield f"L6/L7 line {where}: {kind}"
    if isinstance(node, ast.FunctionDef):
        if node.end_lineno - node.lineno + 1 > 40:
            yield f"L10 line {where}: long function"
        if node.decorator_list or node.args.vararg or node.args.kwarg or node.args.kwonlyargs or node.args.posonlyargs:
            yield f"L4 line {where}: parameters or decorator"
    if isinstance(node, ast.ClassDef) and (node.decorator_list or node.keywords or len(node.bases) > 1):
        yield f"L5 line {where}: class"
    if isinstance(node, ast.Assign) and (len(node.targets) > 1 or not isinstance(
            node.targets[0], (ast.Name, ast.Attribute, ast.Subscript))):
        yield f"L6 line {where}: more than one target"
    if isinstance(node, (ast.Assign, ast.Return)) and isinstance(node.value, ast.Call):
        if getattr(node.value.func, "id", getattr(node.value.func, "attr", "")) in WALKED:
            yield f"L23 line {where}: kept and not walked"
    if isinstance(node, (ast.For, ast.While)) and node.orelse:
        yield f"L6 line {where}: else behind a loop"
    if isinstance(node, ast.ListComp) and (len(node.generators) > 1 or len(node.generators[0].ifs) > 1):
        yield f"L7 line {where}: comprehension"
    if isinstance(node, ast.Constant) and isinstance(node.value, (float, bytes, complex)):
        yield f"L7 line {where}: {node.value!r}"
    if isinstance(node, ast.Constant) and isinstance(node.value, str) and "%" in node.value:
        yield f"L27 line {where}: a percent sign"
    if isinstance(node, ast.Compare) and any(isinstance(op, (ast.Is, ast.IsNot)) for op in node.ops):
        sides = [node.left] + node.comparators
        if not any(isinstance(side, ast.Constant) and isinstance(side.value, (bool, type(None))) for side in sides):
            yield f"L20 line {where}: is"
    if isinstance(node, ast.Call):
        name = getattr(node.func, "id", "")
        if any(word.arg not in KEYWORDS.get(name, []) for word in node.keywords):
            yield f"L22 line {where}: keyword"


def object_values(tree):
    """The names under which objects keep values."""
    return [node.attr for node in ast.walk(tree) if isinstance(node, ast.Attribute) and isinstance(node.ctx, ast.Store)]


def object_methods(tree):
    """The names of the methods of a file's classes."""
    classes = [node for node in ast.walk(tree) if isinstance(node, ast.ClassDef)]
    return [node.name for found in classes for node in found.body if isinstance(node, ast.FunctionDef)]


def table_faults(tree):
    """Lists and dicts of a file's top that hold such themselves, or are used otherwise than by reading them."""
    tables = []
    for node in tree.body:
        if isinstance(node, ast.Assign) and isinstance(node.value, (ast.List, ast.Dict)):
            tables.append(node.targets[0].id)
            if any(isinstance(part, (ast.List, ast.Dict)) for part in ast.walk(node.value) if part is not node.value):
                yield f"L15 line {node.lineno}: a list or dict within another one"
    read = []
    for node in ast.walk(tree):
        if isinstance(node, ast.Subscript) and isinstance(node.ctx, ast.Load):
            read.append(node.value)
        if isinstance(node, ast.Compare):
            read.extend(node.comparators)
        if isinstance(node, (ast.For, ast.comprehension)):
            read.append(node.iter)
    for node in ast.walk(tree):
        if isinstance(node, ast.Name) and isinstance(node.ctx, ast.Load) and node.id in tables and node not in read:
            yield f"L15 line {node.lineno}: {node.id} is more than read"


def except_faults(tree):
    """Errors that are taken otherwise than by the names of the program's own, or of KeyError and its like."""
    for node in ast.walk(tree):
        if isinstance(node, ast.ExceptHandler):
            names = node.type.elts if isinstance(node.type, ast.Tuple) else [node.type]
            for name in names:
                if not isinstance(name, ast.Name) or name.id in ERRORS and name.id not in FREE_ERRORS:
                    yield f"L19 line {node.lineno}: what is taken here has to be looked at"
        if isinstance(node, ast.Call) and getattr(node.func, "id", "") == "set" and not stands_beside(tree, node):
            yield f"L24 line {node.lineno}: a set is kept"


def stands_beside(tree, call):
    """Whether a set stands beside in, == or !=, or straight within sorted or len."""
    for node in ast.walk(tree):
        if isinstance(node, ast.Compare) and call in [node.left] + node.comparators:
            return True
        if isinstance(node, ast.Call) and getattr(node.func, "id", "") in ("sorted", "len") and call in node.args:
            return True
    return False


def name_faults(tree, values):
    """Names that are banned, or given to what has one of Python's or of the file's own already."""
    taken = [node.name for node in ast.walk(tree) if isinstance(node, ast.ClassDef)]
    for node in tree.body:
        if isinstance(node, ast.ImportFrom):
            taken.extend(alias.asname or alias.name for alias in node.names)
    for node in ast.walk(tree):
        bound = getattr(node, "arg", None) if isinstance(node, ast.arg) else None
        if isinstance(node, ast.Name) and isinstance(node.ctx, ast.Store):
            bound = node.id
        if bound is not None and (bound in taken or hasattr(builtins, bound)):
            yield f"L15 line {node.lineno}: {bound} is taken"
        name = bound or getattr(node, "id", None) or getattr(node, "attr", None) or getattr(node, "name", None)
        if isinstance(name, str) and (name in BANNED_NAMES or name.startswith("_") and name not in SPECIAL):
            yield f"L12/L17 line {getattr(node, 'lineno', 0)}: {name}"
        if isinstance(node, ast.Name) and hasattr(builtins, node.id) and node.id not in CALLED + ERRORS:
            yield f"L8 line {node.lineno}: {node.id}"
        if isinstance(node, ast.Attribute) and node.attr not in METHODS + SPECIAL + values:
            yield f"L25 line {node.lineno}: {node.attr}"


def top_faults(tree):
    """What may not stand at a file's top, or stands there twice."""
    names = []
    for n, node in enumerate(tree.body):
        if isinstance(node, (ast.FunctionDef, ast.ClassDef)):
            names.append(node.name)
        elif isinstance(node, ast.Assign):
            names.append(node.targets[0].id)
        elif isinstance(node, ast.ImportFrom):
            names.extend(alias.asname or alias.name for alias in node.names)
        elif n > 0 or not isinstance(node, ast.Expr):
            yield f"L3 line {node.lineno}"
    for name in names:
        if names.count(name) > 1:
            yield f"L15 {name} is bound twice"


def file_faults(text, values=()):
    tree = ast.parse(text)
    found = list(text_faults(text)) + list(top_faults(tree)) + list(name_faults(tree, list(values)))
    found += list(table_faults(tree)) + list(except_faults(tree))
    for node in ast.walk(tree):
        found.extend(node_faults(node))
    return found


def drawn_from(tree):
    """The files and names that a file imports."""
    return [(node.module, alias.name) for node in tree.body if isinstance(node, ast.ImportFrom) for alias in node.names]


class Language(unittest.TestCase):

    def setUp(self):
        self.texts = {path.stem: path.read_text(encoding="utf-8") for path in sorted(PACKAGE.glob("*.py"))}
        self.trees = {name: ast.parse(text) for name, text in self.texts.items()}

    def test_files(self):
        self.assertIn("__init__", self.texts)
        for path in PACKAGE.iterdir():
            if path.name != "__pycache__":
                self.assertRegex(path.name, r"^[a-z0-9_]+\.py$")
                self.assertFalse(hasattr(builtins, path.stem) and path.stem != "__init__", path.stem)

    def test_each_file(self):
        own = [value for tree in self.trees.values() for value in object_values(tree) + object_methods(tree)]
        for name, text in self.texts.items():
            self.assertEqual(file_faults(text, own), [], name)

    def test_methods_and_values_have_names_of_their_own(self):
        values = {value for tree in self.trees.values() for value in object_values(tree)}
        methods = {method for tree in self.trees.values() for method in object_methods(tree)} - set(SPECIAL)
        self.assertEqual(values & methods, set(), "L18")
        for name in values | methods:
            self.assertFalse(any(hasattr(kind, name) for kind in (str, int, list, tuple, dict, set, bytes)), ("L26", name))

    def test_imports_come_from_the_file_that_defines_the_name(self):
        for name, tree in self.trees.items():
            for module, drawn in drawn_from(tree):
                folder, _, stem = module.partition(".")
                self.assertEqual(folder, "cutstand", name)
                tops = [getattr(node, "name", None) for node in self.trees[stem].body]
                tops += [node.targets[0].id for node in self.trees[stem].body if isinstance(node, ast.Assign)]
                self.assertIn(drawn, tops, (name, module))

    def test_every_import_is_used(self):
        for name, tree in self.trees.items():
            used = [node.id for node in ast.walk(tree) if isinstance(node, ast.Name)]
            for module, drawn in drawn_from(tree):
                self.assertIn(drawn, used, name)

    def test_no_two_files_draw_from_one_another(self):
        left = {name: {module.partition(".")[2] for module, _ in drawn_from(tree)} for name, tree in self.trees.items()}
        while left:
            free = [name for name in left if not left[name] & set(left)]
            self.assertTrue(free, left)
            for name in free:
                left.pop(name)

    def test_faults_are_seen(self):
        faulty = [
            "x = 1\nx = 2", "print(1)", "def f(*a):\n    return a", "def f():\n    x = y = 1", "import sys",
            "def f(x):\n    return x / 2", "def f(x):\n    return [a for b in x for a in b]", "def f(x):\n    return x is 1",
            "def f(list):\n    return 0", "def f(x):\n    return x.format(1)", "def f(x):\n    x.sort()",
            "def f():\n    assert True", "def f(x):\n    return (a for a in x)", "_x = 1", "# a type", "x = '%'",
            "def f(x):\n    a, b = x", "def f(x):\n    y = zip(x, x)", "x = 1.5", "def f(x):\n    return getattr(x, 'a')", "x = 1" + " " * 120,
            "def f(x):\n    for a in x:\n        pass\n    else:\n        pass", "def f(x):\n    return sorted(x, cmp=1)",
            "T = {'a': [1]}", "T = [1]\ndef f():\n    return T", "T = {}\ndef f(x):\n    T[x] = 1", "T = []\ndef f(x):\n    T.append(x)",
            "def f(x):\n    try:\n        return int(x)\n    except ValueError:\n        return 0", "def f(x):\n    return set(x)",
            "def f():\n" + "    x = 1\n" * 40, "x = 1\n" + "\n" * 400,
        ]
        for text in faulty:
            self.assertNotEqual(file_faults(text), [], text)


if __name__ == "__main__":
    unittest.main()
