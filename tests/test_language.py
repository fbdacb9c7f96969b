"""The package's files keep to the part of Python that LANGUAGE.md tells; here the rules that a look can check.

With [2] it also holds that nothing hangs on a clock, chance or files: no module that could bring them is drawn from.
"""

import ast
import builtins
import re
import unittest
from pathlib import Path

PACKAGE = Path(__file__).resolve().parent.parent / "ladderlots"

STATEMENTS = (
    "Module Import ImportFrom alias FunctionDef ClassDef arguments arg Assign AugAssign If While For Return Break "
    "Continue Pass Raise Try ExceptHandler Expr"
)
EXPRESSIONS = (
    "Constant Name Attribute Subscript Slice Call keyword List Tuple Dict Set ListComp comprehension Lambda IfExp "
    "BinOp UnaryOp BoolOp Compare JoinedStr FormattedValue Load Store Add Sub Mult FloorDiv Mod Pow BitAnd BitOr "
    "BitXor LShift RShift Invert UAdd USub Not And Or Eq NotEq Lt LtE Gt GtE In NotIn Is IsNot"
)
NODES = set((STATEMENTS + " " + EXPRESSIONS).split())

OWN_NAMES = set(
    "len range enumerate zip min max sum abs sorted reversed int str bool list tuple dict set frozenset isinstance ord "
    "repr any all divmod Exception ValueError TypeError KeyError IndexError LookupError ZeroDivisionError "
    "ArithmeticError OverflowError RuntimeError NotImplementedError AttributeError StopIteration".split()
)
METHODS = set(
    "append clear copy count endswith extend find get index insert isalnum isalpha isdigit islower isspace isupper "
    "items join keys ljust lower lstrip partition pop remove replace reverse rfind rjust rpartition rsplit rstrip "
    "setdefault split splitlines startswith strip update upper values zfill bit_length".split()
)
TWO_UNDERSCORES = {"__init__", "__eq__", "__repr__", "__str__", "__len__"}
WORDS = re.compile(
    r"\b(type|typing|typing_extensions|enum|Enum|IntEnum|StrEnum|Flag|IntFlag|Generic|Protocol|ABC|ABCMeta|namedtuple"
    r"|NamedTuple|TypedDict|TYPE_CHECKING|abstractmethod)\b|dataclass|overload|contextmanager"
)


def files():
    return sorted(PACKAGE.rglob("*.py"))


def nodes():
    return [(path, node) for path in files() for node in ast.walk(ast.parse(path.read_text("ascii")))]


def defined():
    """The names of the package's own methods and of the values of its objects."""
    own = set()
    for path, node in nodes():
        if isinstance(node, ast.FunctionDef):
            own.add(node.name)
        if isinstance(node, ast.Attribute) and isinstance(node.ctx, ast.Store):
            own.add(node.attr)
    return own


def bound(node):
    """The names that a node gives a meaning."""
    if isinstance(node, (ast.FunctionDef, ast.ClassDef)):
        return [node.name]
    if isinstance(node, ast.Name) and isinstance(node.ctx, ast.Store):
        return [node.id]
    if isinstance(node, ast.arg):
        return [node.arg]
    if isinstance(node, ast.alias):
        return [node.asname or node.name]
    return []


class Language(unittest.TestCase):
    def test_files(self):
        self.assertIn(PACKAGE / "__init__.py", files())
        for path in PACKAGE.rglob("*"):
            if "__pycache__" not in path.parts:
                self.assertRegex(path.name, r"^(__init__|__main__|[a-z][a-z0-9_]*)\.py$")

    def test_signs_lines_and_words(self):
        for path in files():
            text = path.read_text("ascii")
            self.assertRegex(text, r"\A[ -~\n]*\Z")
            self.assertLessEqual(len(text.splitlines()), 400)
            self.assertLessEqual(max(len(line) for line in text.splitlines()), 120)
            self.assertIsNone(WORDS.search(text), path)

    def test_forms(self):
        for path, node in nodes():
            with self.subTest(path=path.name, line=getattr(node, "lineno", 0)):
                self.assertIn(type(node).__name__, NODES)
                if isinstance(node, ast.FunctionDef):
                    self.assertLessEqual(node.end_lineno - node.lineno + 1, 40)
                if isinstance(node, (ast.FunctionDef, ast.ClassDef)):
                    self.assertEqual([], node.decorator_list)
                if isinstance(node, ast.arguments):
                    self.assertFalse(node.vararg or node.kwarg or node.kwonlyargs or node.posonlyargs)
                if isinstance(node, ast.Constant):
                    self.assertIn(type(node.value), (int, str, bool, type(None)))
                if isinstance(node, ast.Assign):
                    self.assertEqual(1, len(node.targets))
                    self.assertNotIsInstance(node.targets[0], (ast.Tuple, ast.List))
                if isinstance(node, ast.FormattedValue):
                    self.assertIsInstance(node.value, ast.Name)

    def test_imports_are_the_packages_own(self):
        for path, node in nodes():
            self.assertNotIsInstance(node, ast.Import)
            if isinstance(node, ast.ImportFrom):
                self.assertEqual(0, node.level)
                self.assertRegex(node.module, r"^ladderlots\.[a-z_]+$")
                self.assertNotIn("*", [name.name for name in node.names])

    def test_names(self):
        own = defined()
        for path, node in nodes():
            with self.subTest(path=path.name, line=getattr(node, "lineno", 0)):
                for name in bound(node):
                    self.assertFalse(name.startswith("_") and name not in TWO_UNDERSCORES, name)
                    self.assertNotIn(name, vars(builtins))
                if isinstance(node, ast.Name) and node.id in vars(builtins):
                    self.assertIn(node.id, OWN_NAMES)
                if isinstance(node, ast.Attribute):
                    self.assertIn(node.attr, METHODS | own)


if __name__ == "__main__":
    unittest.main()
