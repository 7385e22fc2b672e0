"""The package's own form: the rules of LANGUAGE.md that a short look at the files can hold."""

import ast
import builtins
import re
import unittest
from pathlib import Path

PACKAGE = Path(__file__).resolve().parent.parent / "walktold"

NODES = """Module Expr Constant ImportFrom alias FunctionDef arguments arg ClassDef Return Assign AugAssign For While If
Raise Try ExceptHandler Pass Break Continue Assert Delete BoolOp And Or BinOp Add Sub Mult FloorDiv Mod Pow LShift
RShift BitOr BitXor BitAnd UnaryOp Not USub Invert IfExp Dict Set ListComp SetComp DictComp comprehension Compare Eq
NotEq Lt LtE Gt GtE Is IsNot In NotIn Call keyword JoinedStr FormattedValue Attribute Subscript Slice Name Load Store
Del List Tuple Lambda Starred""".split()
BUILTINS = """len range enumerate zip min max sum abs sorted reversed int str bool bytes list tuple dict set isinstance
ord repr any all divmod Exception ValueError TypeError KeyError IndexError LookupError ZeroDivisionError""".split()
METHODS = """append clear copy count endswith extend find get index insert isalnum isalpha isdigit islower isspace
isupper items join keys ljust lower lstrip partition pop remove replace reverse rfind rjust rpartition rsplit rstrip
setdefault split splitlines startswith strip update upper values zfill bit_length sort add discard __init__""".split()
WORDS = """type typing typing_extensions enum Enum IntEnum StrEnum Flag IntFlag Generic Protocol ABC ABCMeta namedtuple
NamedTuple TypedDict TYPE_CHECKING abstractmethod""".split()


def parsed():
    for path in sorted(PACKAGE.glob("*.py")):
        text = path.read_text(encoding="utf-8")
        yield path.name, text, ast.parse(text)


def bound_names(tree):
    """All names that a file gives a meaning."""
    for node in ast.walk(tree):
        if isinstance(node, (ast.FunctionDef, ast.ClassDef)):
            yield node.name
        elif isinstance(node, ast.arg):
            yield node.arg
        elif isinstance(node, ast.Name) and not isinstance(node.ctx, ast.Load):
            yield node.id
        elif isinstance(node, ast.alias):
            yield node.asname or node.name
        elif isinstance(node, ast.ExceptHandler) and node.name:
            yield node.name


def given_values(trees):
    """All values that some class of the package gives its objects."""
    for tree in trees:
        for node in ast.walk(tree):
            if isinstance(node, ast.Attribute) and isinstance(node.ctx, ast.Store):
                yield node.attr
            elif isinstance(node, ast.ClassDef):
                yield from (part.name for part in node.body if isinstance(part, ast.FunctionDef))


class Form(unittest.TestCase):
    def test_only_files_of_python_lie_in_the_package(self):
        names = [path.name for path in PACKAGE.iterdir() if path.name != "__pycache__"]
        self.assertIn("__init__.py", names)
        for name in names:
            self.assertRegex(name, r"^(__init__|[a-z][a-z0-9_]*)\.py$")

    def test_signs_and_sizes(self):
        for name, text, tree in parsed():
            rows = text.split("\n")
            self.assertLessEqual(len(rows), 400, name)
            for at, row in enumerate(rows):
                self.assertRegex(row, r"^[ -~]{0,120}$", (name, at))
            for node in ast.walk(tree):
                if isinstance(node, ast.FunctionDef):
                    self.assertLessEqual(node.end_lineno - node.lineno + 1, 40, (name, node.name))

    def test_words_that_stand_nowhere(self):
        for name, text, tree in parsed():
            self.assertEqual([word for word in re.findall(r"\w+", text) if word in WORDS], [], name)
            self.assertNotRegex(text, "dataclass|overload|contextmanager")

    def test_only_plain_forms_stand(self):
        for name, text, tree in parsed():
            for node in ast.walk(tree):
                kind = node.__class__.__name__
                self.assertIn(kind, NODES, (name, kind, getattr(node, "lineno", 0)))
                if isinstance(node, ast.Constant):
                    self.assertNotIsInstance(node.value, (float, complex), (name, node.lineno))
                    self.assertNotIn("%", str(node.value), (name, node.lineno))
                if isinstance(node, (ast.FunctionDef, ast.ClassDef)):
                    self.assertEqual(node.decorator_list, [], (name, node.name))
                if isinstance(node, ast.For) or isinstance(node, ast.While):
                    self.assertEqual(node.orelse, [], (name, node.lineno))

    def test_imports(self):
        for name, text, tree in parsed():
            for node in ast.walk(tree):
                if isinstance(node, ast.ImportFrom):
                    self.assertRegex(node.module, r"^walktold\.[a-z]+$", name)
                    self.assertEqual(node.level, 0, name)
                    own = ast.parse((PACKAGE / (node.module.split(".")[1] + ".py")).read_text())
                    for alias in node.names:
                        self.assertIn(alias.name, [part.name for part in own.body if hasattr(part, "name")], name)

    def test_names(self):
        for name, text, tree in parsed():
            bound = set(bound_names(tree)) - {"__init__"}
            for one in bound:
                self.assertRegex(one, r"^[A-Za-z][A-Za-z0-9_]*$", name)
                self.assertFalse(hasattr(builtins, one), (name, one))
            for node in ast.walk(tree):
                if isinstance(node, ast.Name):
                    self.assertTrue(node.id in bound or node.id in BUILTINS, (name, node.id))

    def test_methods_and_values(self):
        files = list(parsed())
        own = set(given_values([tree for name, text, tree in files]))
        for name, text, tree in files:
            for node in ast.walk(tree):
                if isinstance(node, ast.Attribute):
                    self.assertTrue(node.attr in METHODS or node.attr in own, (name, node.attr, node.lineno))

    def test_no_two_files_draw_from_one_another(self):
        draws = {}
        for name, text, tree in parsed():
            draws[name[:-3]] = [node.module.split(".")[1] for node in ast.walk(tree) if isinstance(node, ast.ImportFrom)]
        while draws:
            ends = [name for name, others in draws.items() if not any(other in draws for other in others)]
            self.assertTrue(ends, draws)
            for name in ends:
                del draws[name]
