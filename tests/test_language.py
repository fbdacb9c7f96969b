"""The package's files keep to the part of Python that LANGUAGE.md tells; here the rules that a look can check.

With [2] it also holds that nothing hangs on a clock, chance or files: no module that could bring them is drawn from.
"""

import ast
import builtins
import re
import unittest
from pathlib import Path

PACKAGE = Path(__file__).resolve().parent.parent / "ladderlots"

STATEMENTS = (
    "Module Import ImportFrom alias FunctionDef ClassDef arguments arg Assign AugAssign If While For Return Break "
    "Continue Pass Raise Try ExceptHandler Expr"
)
EXPRESSIONS = (
    "Constant Name Attribute Subscript Slice Call keyword List Tuple Dict Set ListComp comprehension Lambda IfExp "
    "BinOp UnaryOp BoolOp Compare JoinedStr FormattedValue Load Store Add Sub Mult FloorDiv Mod Pow BitAnd BitOr "
    "BitXor LShift RShift Invert UAdd USub Not And Or Eq NotEq Lt LtE Gt GtE In NotIn Is IsNot"
)
NODES = set((STATEMENTS + " " + EXPRESSIONS).split())

OWN_NAMES = set(
    "len range enumerate zip min max sum abs sorted reversed int str bool list tuple dict set frozenset isinstance ord "
    "repr any all divmod Exception ValueError TypeError KeyError IndexError LookupError ZeroDivisionError "
    "ArithmeticError OverflowError RuntimeError NotImplementedError AttributeError StopIteration".split()
)
METHODS = set(
    "append clear copy count endswith extend find get index insert isalnum isalpha isdigit islower isspace isupper "
    "items join keys ljust lower lstrip partition pop remove replace reverse rfind rjust rpartition rsplit rstrip "
    "setdefault split splitlines startswith strip update upper values zfill bit_length".split()
)
TWO_UNDERSCORES = {"__init__", "__eq__", "__repr__", "__str__", "__len__"}
WALKED = {"zip", "enumerate", "reversed", "range", "items", "keys", "values"}
WALKERS = {"list", "tuple", "dict", "sorted", "sum", "any", "all", "enumerate", "zip"}
WORDS = re.compile(
    r"\b(type|typing|typing_extensions|enum|Enum|IntEnum|StrEnum|Flag|IntFlag|Generic|Protocol|ABC|ABCMeta|namedtuple"
    r"|NamedTuple|TypedDict|TYPE_CHECKING|abstractmethod)\b|dataclass|overload|contextmanager"
)


def files():
    return sorted(PACKAGE.rglob("*.py"))


def nodes():
    return [(path, node) for path in files() for node in ast.walk(ast.parse(path.read_text("ascii")))]


def defined():
    """The names of the package's own methods and of the values of its objects."""
    own = set()
    for path, node in nodes():
        if isinstance(node, ast.FunctionDef):
            own.add(node.name)
        if isinstance(node, ast.Attribute) and isinstance(node.ctx, ast.Store):
            own.add(node.attr)
    return own


def bound(node):
    """The names that a node gives a meaning."""
    if isinstance(node, (ast.FunctionDef, ast.ClassDef)):
        return [node.name]
    if isinstance(node, ast.Name) and isinstance(node.ctx, ast.Store):
        return [node.id]
    if isinstance(node, ast.arg):
        return [node.arg]
    if isinstance(node, ast.alias):
        return [node.asname or node.name]
    return []


def trees():
    return [(path, ast.parse(path.read_text("ascii"))) for path in files()]


def called(node):
    """The name by which something is called; None if nothing is."""
    if not isinstance(node, ast.Call):
        return None
    return node.func.id if isinstance(node.func, ast.Name) else getattr(node.func, "attr", None)


def walked_places(tree):
    """The nodes that are walked on the spot, as L23 tells."""
    places = []
    for node in ast.walk(tree):
        if isinstance(node, (ast.For, ast.comprehension)):
            places.append(node.iter)
        if called(node) in WALKERS or called(node) in ("min", "max") and len(node.args) == 1:
            places += node.args if called(node) == "zip" else node.args[:1]
    return places


def drawn_from(tree):
    return [node for node in tree.body if isinstance(node, ast.ImportFrom)]


class Language(unittest.TestCase):
    def test_files(self):
        self.assertIn(PACKAGE / "__init__.py", files())
        for path in PACKAGE.rglob("*"):
            if "__pycache__" not in path.parts:
                self.assertRegex(path.name, r"^(__init__|__main__|[a-z][a-z0-9_]*)\.py$")

    def test_signs_lines_and_words(self):
        for path in files():
            text = path.read_text("ascii")
            self.assertRegex(text, r"\A[ -~\n]*\Z")
            self.assertLessEqual(len(text.splitlines()), 400)
            self.assertLessEqual(max(len(line) for line in text.splitlines()), 120)
            self.assertIsNone(WORDS.search(text), path)

    def test_forms(self):
        for path, node in nodes():
            with self.subTest(path=path.name, line=getattr(node, "lineno", 0)):
                self.assertIn(type(node).__name__, NODES)
                if isinstance(node, ast.FunctionDef):
                    self.assertLessEqual(node.end_lineno - node.lineno + 1, 40)
                if isinstance(node, (ast.FunctionDef, ast.ClassDef)):
                    self.assertEqual([], node.decorator_list)
                if isinstance(node, ast.arguments):
                    self.assertFalse(node.vararg or node.kwarg or node.kwonlyargs or node.posonlyargs)
                if isinstance(node, ast.Constant):
                    self.assertIn(type(node.value), (int, str, bool, type(None)))
                if isinstance(node, ast.Assign):
                    self.assertEqual(1, len(node.targets))
                    self.assertNotIsInstance(node.targets[0], (ast.Tuple, ast.List))
                if isinstance(node, ast.FormattedValue):
                    self.assertIsInstance(node.value, ast.Name)

    def test_statements_by_themselves_are_calls(self):
        for path, tree in trees():
            self.assertIsNotNone(ast.get_docstring(tree), path)
            for node in ast.walk(tree):
                if isinstance(node, ast.Expr) and node is not tree.body[0]:
                    self.assertIsInstance(node.value, ast.Call, (path.name, node.lineno))

    def test_the_top_of_a_file(self):
        for path, tree in trees():
            names = []
            for node in tree.body[1:]:
                self.assertIsInstance(node, (ast.ImportFrom, ast.FunctionDef, ast.ClassDef, ast.Assign))
                names += [name for part in getattr(node, "names", []) + getattr(node, "targets", [])
                          for name in bound(part)] or bound(node)
            self.assertEqual(len(set(names)), len(names), path)

    def test_no_annotations_and_is_beside_plain_values_alone(self):
        for path, node in nodes():
            self.assertIsNone(getattr(node, "annotation", None))
            self.assertIsNone(getattr(node, "returns", None))
            if isinstance(node, ast.Compare) and any(isinstance(op, (ast.Is, ast.IsNot)) for op in node.ops):
                asked = [side.value for side in [node.left] + node.comparators if isinstance(side, ast.Constant)]
                self.assertTrue([value for value in asked if value is None or value is True or value is False])

    def test_walked_at_once(self):
        for path, tree in trees():
            places = walked_places(tree)
            for node in ast.walk(tree):
                if called(node) in WALKED:
                    self.assertTrue(any(node is place for place in places), (path.name, node.lineno))

    def test_what_a_loop_walks_is_not_changed_in_it(self):
        changes = ("append", "clear", "extend", "insert", "pop", "remove", "reverse", "setdefault", "update")
        for path, loop in nodes():
            if isinstance(loop, ast.For):
                walked = {node.id for node in ast.walk(loop.iter) if isinstance(node, ast.Name)}
                for node in ast.walk(loop):
                    if called(node) in changes and isinstance(node.func, ast.Attribute):
                        self.assertNotIn(ast.unparse(node.func.value), walked, (path.name, node.lineno))
                    if isinstance(node, ast.Subscript) and isinstance(node.ctx, ast.Store):
                        self.assertNotIn(ast.unparse(node.value), walked, (path.name, node.lineno))

    def test_locals_are_not_called_like_what_stands_at_the_top(self):
        for path, tree in trees():
            top = {name.name for node in drawn_from(tree) for name in node.names}
            top |= {node.name for node in tree.body if isinstance(node, (ast.ClassDef, ast.FunctionDef))}
            for define in ast.walk(tree):
                if isinstance(define, ast.FunctionDef):
                    for node in ast.walk(define):
                        if isinstance(node, (ast.Name, ast.arg)):
                            self.assertFalse(top & set(bound(node)), (path.name, node.lineno))

    def test_imports_draw_from_the_file_that_defines_and_never_round(self):
        defines = {f"ladderlots.{path.stem}": tree for path, tree in trees()}
        draws = {}
        for module, tree in defines.items():
            draws[module] = {node.module for node in drawn_from(tree)}
            for node in drawn_from(tree):
                here = [name for part in defines[node.module].body for name in bound(part)]
                here += [name for part in defines[node.module].body if isinstance(part, ast.Assign)
                         for name in bound(part.targets[0])]
                for name in node.names:
                    self.assertIn(name.name, here)
        while draws:
            free = [module for module in draws if not draws[module] & set(draws)]
            self.assertTrue(free, "files draw from one another")
            for module in free:
                del draws[module]

    def test_no_percent_sign_in_texts_and_no_free_exponent(self):
        for path, node in nodes():
            if isinstance(node, ast.Constant) and isinstance(node.value, str):
                self.assertNotIn("%", node.value)
            if isinstance(node, ast.BinOp) and isinstance(node.op, ast.Pow):
                self.assertIsInstance(node.right, ast.Constant)

    def test_imports_are_the_packages_own(self):
        for path, node in nodes():
            self.assertNotIsInstance(node, ast.Import)
            if isinstance(node, ast.ImportFrom):
                self.assertEqual(0, node.level)
                self.assertRegex(node.module, r"^ladderlots\.[a-z_]+$")
                self.assertNotIn("*", [name.name for name in node.names])

    def test_names(self):
        own = defined()
        for path, node in nodes():
            with self.subTest(path=path.name, line=getattr(node, "lineno", 0)):
                for name in bound(node):
                    self.assertFalse(name.startswith("_") and name not in TWO_UNDERSCORES, name)
                    self.assertNotIn(name, vars(builtins))
                if isinstance(node, ast.Name) and node.id in vars(builtins):
                    self.assertIn(node.id, OWN_NAMES)
                if isinstance(node, ast.Attribute):
                    self.assertIn(node.attr, METHODS | own)


if __name__ == "__main__":
    unittest.main()
