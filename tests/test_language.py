"""The package keeps to the small part of Python that it is written in.

Just the rules that can be seen row by row or name by name are looked at here.
"""

import ast
import builtins
import pathlib
import re
import unittest

PACKAGE = pathlib.Path(__file__).resolve().parent.parent / "nesthall"
FILES = sorted(PACKAGE.glob("**/*.py"))

BUILT_IN = set(
    "len range enumerate zip min max sum abs sorted reversed int str bool list tuple dict set frozenset isinstance "
    "ord repr any all divmod Exception ValueError TypeError KeyError IndexError LookupError ZeroDivisionError "
    "ArithmeticError OverflowError RuntimeError NotImplementedError AttributeError StopIteration".split()
)
METHODS = set(
    "append clear copy count endswith extend find get index insert isalnum isalpha isdigit islower isspace isupper "
    "items join keys ljust lower lstrip partition pop remove replace reverse rfind rjust rpartition rsplit rstrip "
    "setdefault split splitlines startswith strip update upper values zfill bit_length __init__".split()
)
OWN_UNDERSCORES = {"__init__", "__eq__", "__repr__", "__str__", "__len__"}
BARRED_WORDS = re.compile(
    r"\b(type|typing|typing_extensions|enum|Enum|IntEnum|StrEnum|Flag|IntFlag|Generic|Protocol|ABC|ABCMeta|namedtuple"
    r"|NamedTuple|TypedDict|TYPE_CHECKING|abstractmethod)\b|dataclass|overload|contextmanager"
)
BARRED_NAMES = set("register mro elements open input version_info with_traceback add_note format format_map".split())
WALKING = ("list", "tuple", "dict", "sorted", "sum", "any", "all", "enumerate")
STATEMENTS = (
    ast.FunctionDef, ast.ClassDef, ast.ImportFrom, ast.Assign, ast.AugAssign, ast.If, ast.While, ast.For, ast.Return,
    ast.Break, ast.Continue, ast.Pass, ast.Raise, ast.Try, ast.Expr,
)
EXPRESSIONS = (
    ast.BinOp, ast.UnaryOp, ast.BoolOp, ast.Compare, ast.IfExp, ast.Call, ast.Attribute, ast.Subscript, ast.Slice,
    ast.ListComp, ast.JoinedStr, ast.FormattedValue, ast.Constant, ast.Name, ast.List, ast.Tuple, ast.Dict, ast.Set,
    ast.Lambda,
)


def bound_names(tree):
    """Each name that is bound anywhere in the file."""
    names = []
    for node in ast.walk(tree):
        if isinstance(node, (ast.FunctionDef, ast.ClassDef)):
            names.append(node.name)
        elif isinstance(node, ast.arg):
            names.append(node.arg)
        elif isinstance(node, ast.Name) and isinstance(node.ctx, ast.Store):
            names.append(node.id)
        elif isinstance(node, ast.ImportFrom):
            names.extend(alias.asname or alias.name for alias in node.names)
        elif isinstance(node, ast.ExceptHandler) and node.name:
            names.append(node.name)
    return names


def faults_of_rows(text):
    """What is wrong with the file as rows of signs (L10, L14, L17)."""
    rows = text.split("\n")
    told = [] if len(rows) <= 401 else ["L10: the file is too long"]
    for number, row in enumerate(rows, start=1):
        if len(row) > 120:
            told.append(f"L10: row {number} is too long")
        if any(not " " <= sign <= "~" for sign in row):
            told.append(f"L14: row {number} has another sign")
        if BARRED_WORDS.search(row):
            told.append(f"L17: row {number} has a barred word")
    return told


def faults_of_names(tree, methods):
    """What is wrong with the names of the file (L8, L12, L15, L17, L25)."""
    bound = bound_names(tree)
    told = []
    for name in bound:
        if name.startswith("_") and name not in OWN_UNDERSCORES:
            told.append(f"L12: {name}")
        if name in BARRED_NAMES:
            told.append(f"L17: {name}")
        if hasattr(builtins, name) and name not in methods:
            told.append(f"L15: {name}")
    for node in ast.walk(tree):
        if isinstance(node, ast.Name) and node.id not in BUILT_IN and node.id not in bound:
            told.append(f"L8: {node.id} in row {node.lineno}")
        if isinstance(node, ast.Attribute) and node.attr in BARRED_NAMES:
            told.append(f"L17: {node.attr} in row {node.lineno}")
        if isinstance(node, ast.Call) and isinstance(node.func, ast.Attribute):
            if node.func.attr not in METHODS and node.func.attr not in methods:
                told.append(f"L25: {node.func.attr} in row {node.lineno}")
    return told


def faults_of_form(node):
    """What is wrong with one statement or expression (L2, L4 to L7, L10, L16, L20, L21, L27)."""
    told = []
    if isinstance(node, ast.stmt) and not isinstance(node, STATEMENTS):
        told.append("L6: a barred statement")
    if isinstance(node, ast.expr) and not isinstance(node, EXPRESSIONS):
        told.append("L7: a barred expression")
    if isinstance(node, ast.ImportFrom) and (node.level or not (node.module or "").startswith("nesthall.")):
        told.append("L2: an import from elsewhere")
    if isinstance(node, (ast.FunctionDef, ast.ClassDef)) and node.decorator_list:
        told.append("L4: a decorator")
    if isinstance(node, ast.FunctionDef):
        if node.end_lineno - node.lineno >= 40:
            told.append("L10: the function is too long")
        if node.args.vararg or node.args.kwarg or node.args.kwonlyargs:
            told.append("L4: other parameters")
    if isinstance(node, ast.ClassDef) and len(node.bases) + len(node.keywords) > 1:
        told.append("L5: more than one base")
    if isinstance(node, (ast.For, ast.While)) and node.orelse or isinstance(node, ast.Try) and node.finalbody:
        told.append("L6: an else behind a loop, or a finally")
    if isinstance(node, ast.Assign) and len(node.targets) > 1:
        told.append("L6: more than one target")
    if isinstance(node, ast.ListComp) and (len(node.generators) > 1 or len(node.generators[0].ifs) > 1):
        told.append("L7: a comprehension with several parts")
    if isinstance(node, ast.BinOp) and isinstance(node.op, (ast.Div, ast.MatMult)):
        told.append("L7: a barred sign of reckoning")
    if isinstance(node, ast.Constant) and isinstance(node.value, (float, complex, bytes)):
        told.append("L7: a barred value")
    if isinstance(node, ast.Constant) and isinstance(node.value, str) and "%" in node.value:
        told.append("L27: a barred sign in a text")
    if isinstance(node, ast.Compare):
        for sign, right in zip(node.ops, node.comparators):
            if isinstance(sign, (ast.Is, ast.IsNot)) and not (
                isinstance(right, ast.Constant) and right.value in (None, True, False)
            ):
                told.append("L20: is beside another value")
    return [f"{fault} in row {node.lineno}" for fault in told]


def is_plain(node):
    """Whether the expression is a plain value, as a name of a file's top may have (L3)."""
    if isinstance(node, (ast.Tuple, ast.List)):
        return all(is_plain(part) for part in node.elts)
    if isinstance(node, ast.Dict):
        return all(is_plain(part) for part in node.keys + node.values)
    if isinstance(node, ast.UnaryOp) and isinstance(node.op, ast.USub):
        return isinstance(node.operand, ast.Constant)
    return isinstance(node, ast.Constant)


def faults_of_top(tree):
    """What is wrong with the top of the file (L3)."""
    told = []
    for number, node in enumerate(tree.body):
        if isinstance(node, ast.Assign):
            right = is_plain(node.value)
        elif isinstance(node, ast.Expr):
            right = number == 0 and isinstance(node.value, ast.Constant)
        else:
            right = isinstance(node, (ast.ImportFrom, ast.FunctionDef, ast.ClassDef))
        if not right:
            told.append(f"L3: row {node.lineno}")
    return told


def is_walker(node):
    """Whether the expression makes something that is to be walked at once (L23)."""
    if not isinstance(node, ast.Call):
        return False
    if isinstance(node.func, ast.Attribute):
        return node.func.attr in ("items", "keys", "values")
    return isinstance(node.func, ast.Name) and node.func.id in ("zip", "enumerate", "reversed", "range")


def faults_of_walks(tree):
    """What is wrong with the places of things that are to be walked at once (L23)."""
    walked = []
    for node in ast.walk(tree):
        if isinstance(node, (ast.For, ast.comprehension)):
            walked.append(node.iter)
        if isinstance(node, ast.Call) and isinstance(node.func, ast.Name):
            name, count = node.func.id, len(node.args)
            if name in WALKING or name == "zip" or name in ("min", "max") and count == 1:
                walked.extend(node.args if name == "zip" else node.args[:1])
        if isinstance(node, ast.Call) and isinstance(node.func, ast.Attribute) and node.func.attr == "join":
            walked.extend(node.args)
    return [f"L23: row {node.lineno}" for node in ast.walk(tree) if is_walker(node) and node not in walked]


def own_values():
    """Each value that an object of the package is given."""
    values = set()
    for path in FILES:
        for node in ast.walk(ast.parse(path.read_text("ascii"))):
            if isinstance(node, ast.Attribute) and isinstance(node.ctx, ast.Store):
                values.add(node.attr)
    return values


def own_methods():
    """Each method that a class of the package has."""
    methods = set()
    for path in FILES:
        for node in ast.walk(ast.parse(path.read_text("ascii"))):
            if isinstance(node, ast.ClassDef):
                methods.update(part.name for part in node.body if isinstance(part, ast.FunctionDef))
    return methods


def faults_of_file(text, methods):
    """All that is wrong with a file of this text, in a package that has these methods."""
    tree = ast.parse(text)
    told = faults_of_rows(text) + faults_of_names(tree, methods) + faults_of_top(tree) + faults_of_walks(tree)
    for node in ast.walk(tree):
        told.extend(faults_of_form(node))
    return told


class Language(unittest.TestCase):
    def test_the_package_holds_plain_files_alone(self):
        names = [path.name for path in PACKAGE.iterdir() if path.name != "__pycache__"]
        self.assertIn("__init__.py", names)
        for name in names:
            with self.subTest(name):
                self.assertRegex(name, r"\A[a-z0-9_]+\.py\Z")

    def test_each_file_keeps_to_the_rules(self):
        methods = own_methods()
        for path in FILES:
            with self.subTest(path.name):
                text = path.read_text("ascii")
                self.assertEqual(faults_of_file(text, methods), [])

    def test_no_name_is_a_method_and_a_value(self):
        self.assertEqual(sorted(own_methods() & own_values()), [])

    def test_a_file_outside_the_rules_is_told(self):
        for text, rule in (
            ("import os\n", "L6"),
            ("X = 10 ** 30\n", "L3"),
            ("X = 5\nX.append(6)\n", "L3"),
            ("def f(x):\n    return x in range(5)\n", "L23"),
            ("def f(x):\n    y = x.items()\n    return y\n", "L23"),
            ("def f(x):\n    return list(reversed(range(x)))\n", "L23"),
            ("from os import path\n", "L2"),
            ("def f(*rest):\n    return rest\n", "L4"),
            ("def f(x):\n    assert x\n", "L6"),
            ("def f(x):\n    return x / 2\n", "L7"),
            ("def f(x):\n    return {y for y in x}\n", "L7"),
            ("def f(x):\n    return getattr(x, 'y')\n", "L8"),
            ("def f(x):\n    _y = x\n    return _y\n", "L12"),
            ("def f(x):\n    sum = x\n    return sum\n", "L15"),
            ("def f(x):\n    return x.sort()\n", "L25"),
            ("def f(x):\n    return x is 5\n", "L20"),
            ("X = 'a type'\n", "L17"),
            ("X = '" + "x" * 120 + "'\n", "L10"),
            ("def f():\n" + "    f()\n" * 40, "L10"),
            ("X = 5\t\n", "L14"),
            ("X = '%'\n", "L27"),
        ):
            with self.subTest(text):
                told = faults_of_file(text, set())
                self.assertIn(rule, [fault.partition(":")[0] for fault in told])


if __name__ == "__main__":
    unittest.main()
