"""The package's files keep to the small part of Python that they are written in.

What can be seen plainly in a file's text and tree is looked at here; the rest of the rules is for the reader.
"""

import ast
import builtins
import pathlib
import re
import unittest

PACKAGE = pathlib.Path(__file__).resolve().parent.parent / "pairlings"

STATEMENTS = (
    ast.Module, ast.FunctionDef, ast.ClassDef, ast.ImportFrom, ast.Assign, ast.AugAssign, ast.If, ast.While,
    ast.For, ast.Return, ast.Break, ast.Continue, ast.Pass, ast.Raise, ast.Try, ast.ExceptHandler, ast.Expr,
)
EXPRESSIONS = (
    ast.Constant, ast.List, ast.Tuple, ast.Dict, ast.Set, ast.BinOp, ast.UnaryOp, ast.BoolOp, ast.Compare,
    ast.IfExp, ast.Call, ast.Attribute, ast.Subscript, ast.Slice, ast.ListComp, ast.comprehension, ast.JoinedStr,
    ast.FormattedValue, ast.Lambda, ast.Name, ast.arguments, ast.arg, ast.keyword, ast.alias, ast.expr_context,
    ast.operator, ast.unaryop, ast.boolop, ast.cmpop,
)
OWN_NAMES = """len range enumerate zip min max sum abs sorted reversed int str bool list tuple dict set frozenset
    isinstance ord repr any all divmod Exception ValueError TypeError KeyError IndexError LookupError
    ZeroDivisionError ArithmeticError OverflowError RuntimeError NotImplementedError AttributeError
    StopIteration""".split()
METHODS = """append clear copy count endswith extend find get index insert isalnum isalpha isdigit islower isspace
    isupper items join keys ljust lower lstrip partition pop remove replace reverse rfind rjust rpartition rsplit
    rstrip setdefault split splitlines startswith strip update upper values zfill bit_length""".split()
WORDS = """type typing typing_extensions enum Enum IntEnum StrEnum Flag IntFlag Generic Protocol ABC ABCMeta
    namedtuple NamedTuple TypedDict TYPE_CHECKING abstractmethod""".split()
WITHIN_WORDS = ["dataclass", "overload", "contextmanager"]
NOWHERE = "register mro elements open input version_info with_traceback add_note".split()


def faults_of_text(text):
    found = []
    lines = text.split("\n")
    if re.search(r"[^ -~\n]", text):
        found.append("a sign that is out")
    if len(lines) > 400 or max(len(line) for line in lines) > 120:
        found.append("too long")
    if set(re.findall(r"\w+", text)) & set(WORDS) or any(word in text for word in WITHIN_WORDS):
        found.append("a word that is out")
    return found


def faults_of_tree(tree):
    found = []
    for node in ast.walk(tree):
        for fault in faults_of_node(node):
            found.append(f"line {getattr(node, 'lineno', 0)}: {fault}")
    top = [node for node in tree.body if not isinstance(node, (ast.FunctionDef, ast.ClassDef, ast.ImportFrom))]
    for place, node in enumerate(top):
        docstring = place == 0 and isinstance(node, ast.Expr) and isinstance(node.value, ast.Constant)
        if not docstring and not isinstance(node, ast.Assign):
            found.append(f"line {node.lineno}: something is done at the top")
    return found


def faults_of_scopes(tree):
    """Names of a file's top that are bound twice, or that a parameter or local bears though they are no def's."""
    found = []
    taken = []
    for node in tree.body:
        if isinstance(node, ast.ImportFrom):
            taken.extend(alias.name for alias in node.names)
        elif isinstance(node, (ast.FunctionDef, ast.ClassDef)):
            taken.append(node.name)
        elif isinstance(node, ast.Assign):
            taken.extend(target.id for target in node.targets if isinstance(target, ast.Name))
    if len(set(taken)) < len(taken):
        found.append("a name is bound twice at the top")
    for function in [node for node in ast.walk(tree) if isinstance(node, ast.FunctionDef)]:
        for node in ast.walk(function):
            stored = node.id if isinstance(node, ast.Name) and isinstance(node.ctx, ast.Store) else None
            stored = node.arg if isinstance(node, ast.arg) else stored
            if stored in taken:
                found.append(f"line {node.lineno}: {stored} is called like a name of the top")
    return found


def faults_of_node(node):
    found = []
    if not isinstance(node, STATEMENTS + EXPRESSIONS):
        found.append(f"{type(node).__name__} is out")
    found.extend(faults_of_names(node))
    if isinstance(node, (ast.FunctionDef, ast.ClassDef)) and node.decorator_list:
        found.append("a decorator")
    if isinstance(node, ast.FunctionDef) and node.end_lineno - node.lineno >= 40:
        found.append("a function of more than 40 lines")
    if isinstance(node, ast.arguments) and (node.vararg or node.kwarg or node.kwonlyargs or node.posonlyargs):
        found.append("a parameter that is not plain")
    if isinstance(node, ast.ImportFrom) and (node.level or not node.module.startswith("pairlings.")):
        found.append("an import from elsewhere")
    if isinstance(node, ast.alias) and (node.name == "*" or node.asname):
        found.append("an import by another name")
    if isinstance(node, ast.Assign) and len(node.targets) != 1:
        found.append("two targets")
    if isinstance(node, ast.ListComp) and (len(node.generators) > 1 or len(node.generators[0].ifs) > 1):
        found.append("a comprehension of more than one for and one if")
    if isinstance(node, (ast.For, ast.While)) and node.orelse or isinstance(node, ast.Try) and node.finalbody:
        found.append("else behind a loop, or finally")
    if isinstance(node, (ast.Div, ast.MatMult)):
        found.append("an operator that is out")
    if isinstance(node, ast.Compare) and any(isinstance(op, (ast.Is, ast.IsNot)) for op in node.ops):
        if not all(isinstance(side, ast.Constant) for side in node.comparators):
            found.append("is beside something else than None, True, False")
    if isinstance(node, ast.Constant) and not isinstance(node.value, (int, str, type(None))):
        found.append("a value that is out")
    if isinstance(node, ast.Constant) and isinstance(node.value, str) and "%" in node.value:
        found.append("a percent sign in a text")
    return found


def faults_of_names(node):
    found = []
    bound = [getattr(node, part, None) for part in ("name", "arg", "attr")]
    bound.append(node.id if isinstance(node, ast.Name) else None)
    for name in bound:
        if name in NOWHERE:
            found.append(f"{name} is not used")
        if isinstance(name, str) and name.startswith("_") and not (isinstance(node, ast.FunctionDef)):
            found.append(f"{name} begins with an underscore")
    if isinstance(node, ast.Name) and isinstance(node.ctx, ast.Load):
        if hasattr(builtins, node.id) and node.id not in OWN_NAMES:
            found.append(f"{node.id} is not used")
    binding = isinstance(node, ast.Name) and isinstance(node.ctx, ast.Store) and node.id
    binding = binding or isinstance(node, ast.arg) and node.arg
    if binding and hasattr(builtins, binding):
        found.append(f"{binding} is given another meaning")
    if isinstance(node, ast.Call) and isinstance(node.func, ast.Attribute) and node.func.attr not in METHODS:
        found.append(f"the method {node.func.attr}")
    return found


def faults(text):
    tree = ast.parse(text)
    return faults_of_text(text) + faults_of_tree(tree) + faults_of_scopes(tree)


class LanguageTest(unittest.TestCase):
    def test_nothing_but_files_with_plain_names(self):
        found = [path.name for path in PACKAGE.iterdir() if path.name != "__pycache__"]
        self.assertIn("__init__.py", found)
        for name in found:
            self.assertRegex(name, r"\A(__init__|[a-z][a-z0-9_]*)\.py\Z")

    def test_each_file(self):
        for path in sorted(PACKAGE.glob("*.py")):
            with self.subTest(path.name):
                self.assertEqual(faults(path.read_text(encoding="utf-8")), [])

    def test_init_draws_from_no_file(self):
        # It counts as drawn from wherever a file of the package is, so the files would draw from one another.
        tree = ast.parse((PACKAGE / "__init__.py").read_text(encoding="utf-8"))
        self.assertFalse([node for node in ast.walk(tree) if isinstance(node, (ast.Import, ast.ImportFrom))])

    def test_no_two_files_draw_from_one_another(self):
        draws = {}
        for path in sorted(PACKAGE.glob("*.py")):
            tree = ast.parse(path.read_text(encoding="utf-8"))
            rows = [node for node in tree.body if isinstance(node, ast.ImportFrom)]
            draws["pairlings." + path.stem] = {node.module for node in rows}
        while draws:
            free = [module for module, drawn in draws.items() if not drawn & set(draws)]
            self.assertNotEqual(free, [], draws)
            draws = {module: drawn for module, drawn in draws.items() if module not in free}

    def test_faults_are_seen(self):
        for text in (
            "import os", "from os import path", "from . import errors", "from pairlings.errors import *",
            "a = b = 1", "a = 1.5", "a = 3 / 2", "a = (b for b in [])", "a = {b for b in []}", "a = {1: 2 for b in []}",
            "def f(*a):\n    pass", "def f(a, *, b):\n    pass", "def f():\n    yield 1", "print(1)", "open('a')",
            "def f(id):\n    pass", "def f(a):\n    a.sort()", "_a = 1", "def f(a):\n    return a is 1 + 1",
            "def f(a):\n    assert a", "a = 'type'", "a = '%'", "a = '\u00e9'", "a = 1\t", "a = 1" + " " * 120,
            "def f():\n" + "    pass\n" * 40, "def f(a):\n    with a:\n        pass", "a = [b for c in d for b in c]",
            "from pairlings.errors import a\ndef f(a):\n    pass", "from pairlings.errors import a\ndef f():\n    a = 1",
            "a = 1\na = 2", "def f(elements):\n    pass",
        ):
            with self.subTest(text):
                self.assertNotEqual(faults(text), [])


if __name__ == "__main__":
    unittest.main()
