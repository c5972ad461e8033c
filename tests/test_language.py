"""Whether the package's files keep to the small part of Python that they are written in, as far as a walk can see."""

import ast
import builtins
import pathlib
import re
import unittest

PACKAGE = pathlib.Path(__file__).resolve().parent.parent / "textkinds"
FILES = sorted(PACKAGE.glob("*.py"))
NODES = """
    Module Expr FunctionDef Lambda ClassDef arguments arg Return Assign AugAssign Delete For While If Raise Try Assert
    ImportFrom alias Pass Break Continue ExceptHandler BoolOp And Or BinOp Add Sub Mult FloorDiv Mod Pow LShift RShift
    BitOr BitXor BitAnd UnaryOp Not USub Invert IfExp Dict Set ListComp DictComp SetComp comprehension Compare Eq NotEq
    Lt LtE Gt GtE Is IsNot In NotIn Call JoinedStr FormattedValue Constant Attribute Subscript Slice Starred Name List
    Tuple Load Store Del keyword
""".split()
OWN_NAMES = """
    len range enumerate zip min max sum abs sorted reversed int str bool bytes list tuple dict set isinstance ord repr
    any all divmod Exception ValueError TypeError KeyError IndexError LookupError ZeroDivisionError ArithmeticError
    OverflowError RuntimeError NotImplementedError AttributeError StopIteration
""".split()
METHODS = """
    append clear copy count endswith extend find get index insert isalnum isalpha isdigit islower isspace isupper items
    join keys ljust lower lstrip partition pop remove replace reverse rfind rjust rpartition rsplit rstrip setdefault
    split splitlines startswith strip update upper values zfill bit_length add discard sort
""".split()
NO_WORDS = """
    type typing typing_extensions enum Enum IntEnum StrEnum Flag IntFlag Generic Protocol ABC ABCMeta namedtuple
    NamedTuple TypedDict TYPE_CHECKING abstractmethod
""".split()
NO_NAMES = """
    register mro elements open input version_info with_traceback add_note attrgetter breakpoint builtins compile
    copyright credits delattr dir eval exec exit gc getattr globals hasattr help id importlib license locals
    methodcaller os quit setattr super type vars sys
""".split()


def trees():
    return [(path.name, ast.parse(path.read_text())) for path in FILES]


def nodes():
    return [(name, node) for name, tree in trees() for node in ast.walk(tree)]


def names_of(node):
    """All names that a node gives or asks."""
    found = [getattr(node, field, None) for field in ("id", "arg", "attr", "name", "asname")]
    return [name for name in found if isinstance(name, str)]


def own_attributes():
    """All methods and values that classes of the package give."""
    found = set()
    for name, node in nodes():
        if isinstance(node, ast.ClassDef):
            found |= {part.name for part in node.body if isinstance(part, ast.FunctionDef)}
        if isinstance(node, ast.Attribute) and isinstance(node.ctx, ast.Store):
            found.add(node.attr)
    return found


class Language(unittest.TestCase):

    def test_files(self):
        others = [path.name for path in PACKAGE.iterdir() if path.name != "__pycache__" and path not in FILES]
        self.assertEqual(others, [])
        for path in FILES:
            self.assertRegex(path.name, r"\A(__init__|[a-z][a-z0-9_]*)\.py\Z")

    def test_rows_and_signs(self):
        for path in FILES:
            rows = path.read_text().split("\n")
            self.assertLessEqual(len(rows), 400, path.name)
            for number, row in enumerate(rows, start=1):
                self.assertRegex(row, r"\A[ -~]{0,120}\Z", (path.name, number))

    def test_words_that_stand_nowhere(self):
        for path in FILES:
            words = set(re.findall(r"[A-Za-z0-9_]+", path.read_text()))
            self.assertEqual(words & set(NO_WORDS), set(), path.name)
            self.assertNotRegex(path.read_text(), "dataclass|overload|contextmanager")

    def test_nodes(self):
        for name, node in nodes():
            self.assertIn(node.__class__.__name__, NODES, (name, getattr(node, "lineno", None)))

    def test_names(self):
        for name, node in nodes():
            for word in names_of(node):
                if isinstance(node, ast.alias) or word == "__init__":
                    continue
                self.assertRegex(word, r"\A[A-Za-z][A-Za-z0-9_]*\Z", (name, node.lineno))
                self.assertNotIn(word, NO_NAMES, (name, node.lineno))

    def test_names_of_python(self):
        for name, node in nodes():
            if isinstance(node, ast.Name) and node.id in vars(builtins):
                self.assertIsInstance(node.ctx, ast.Load, (name, node.lineno))
                self.assertIn(node.id, OWN_NAMES, (name, node.lineno))
            if isinstance(node, (ast.arg, ast.FunctionDef, ast.ClassDef)):
                self.assertFalse(any(word in vars(builtins) for word in names_of(node)), (name, node.lineno))

    def test_methods(self):
        known = set(METHODS) | own_attributes()
        for name, node in nodes():
            if isinstance(node, ast.Attribute):
                self.assertIn(node.attr, known, (name, node.lineno))

    def test_functions(self):
        for name, node in nodes():
            if isinstance(node, ast.FunctionDef):
                self.assertLessEqual(node.end_lineno - node.lineno + 1, 40, (name, node.name))
                self.assertEqual(node.decorator_list, [], (name, node.name))
                parameters = node.args
                self.assertEqual((parameters.vararg, parameters.kwarg, parameters.posonlyargs), (None, None, []))

    def test_imports(self):
        for name, tree in trees():
            for node in tree.body:
                if isinstance(node, ast.ImportFrom):
                    self.assertRegex(node.module, r"\Atextkinds\.[a-z_]+\Z", (name, node.lineno))
                    self.assertEqual(node.level, 0)
                    self.assertNotIn("*", [alias.name for alias in node.names])

    def test_the_top_of_a_file(self):
        for name, tree in trees():
            for node in tree.body:
                self.assertIsInstance(node, (ast.Expr, ast.ImportFrom, ast.FunctionDef, ast.ClassDef, ast.Assign), name)
            bound = [node.name for node in tree.body if isinstance(node, (ast.FunctionDef, ast.ClassDef))]
            for node in tree.body:
                if isinstance(node, ast.Assign):
                    bound += [target.id for target in node.targets]
                if isinstance(node, ast.ImportFrom):
                    bound += [alias.asname or alias.name for alias in node.names]
            self.assertEqual(len(bound), len(set(bound)), name)

    def test_is_stands_beside_plain_values(self):
        for name, node in nodes():
            if isinstance(node, ast.Compare) and any(isinstance(sign, (ast.Is, ast.IsNot)) for sign in node.ops):
                self.assertTrue(all(isinstance(right, ast.Constant) for right in node.comparators), (name, node.lineno))

    def test_plain_values(self):
        for name, node in nodes():
            if isinstance(node, ast.Constant):
                self.assertIsInstance(node.value, (int, str, bytes, bool, type(None)), (name, node.lineno))
                self.assertNotIn("%", str(node.value), (name, node.lineno))


if __name__ == "__main__":
    unittest.main()
