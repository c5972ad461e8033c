"""Whether the package's files keep to the small part of Python that they are written in, as far as a walk can see."""

import ast
import builtins
import pathlib
import re
import unittest

PACKAGE = pathlib.Path(__file__).resolve().parent.parent / "textkinds"
FILES = sorted(PACKAGE.glob("*.py"))
NODES = """
    Module Expr FunctionDef Lambda ClassDef arguments arg Return Assign AugAssign Delete For While If Raise Try Assert
    ImportFrom alias Pass Break Continue ExceptHandler BoolOp And Or BinOp Add Sub Mult FloorDiv Mod Pow LShift RShift
    BitOr BitXor BitAnd UnaryOp Not USub Invert IfExp Dict Set ListComp DictComp SetComp comprehension Compare Eq NotEq
    Lt LtE Gt GtE Is IsNot In NotIn Call JoinedStr FormattedValue Constant Attribute Subscript Slice Starred Name List
    Tuple Load Store Del keyword
""".split()
OWN_NAMES = """
    len range enumerate zip min max sum abs sorted reversed int str bool bytes list tuple dict set isinstance ord repr
    any all divmod Exception ValueError TypeError KeyError IndexError LookupError ZeroDivisionError ArithmeticError
    OverflowError RuntimeError NotImplementedError AttributeError StopIteration
""".split()
METHODS = """
    append clear copy count endswith extend find get index insert isalnum isalpha isdigit islower isspace isupper items
    join keys ljust lower lstrip partition pop remove replace reverse rfind rjust rpartition rsplit rstrip setdefault
    split splitlines startswith strip update upper values zfill bit_length add discard sort
""".split()
NO_WORDS = """
    type typing typing_extensions enum Enum IntEnum StrEnum Flag IntFlag Generic Protocol ABC ABCMeta namedtuple
    NamedTuple TypedDict TYPE_CHECKING abstractmethod
""".split()
NO_NAMES = """
    register mro elements open input version_info with_traceback add_note attrgetter breakpoint builtins compile
    copyright credits delattr dir eval exec exit gc getattr globals hasattr help id importlib license locals
    methodcaller os quit setattr super type vars sys
""".split()


def trees():
    return [(path.name, ast.parse(path.read_text())) for path in FILES]


def nodes():
    return [(name, node) for name, tree in trees() for node in ast.walk(tree)]


def names_of(node):
    """All names that a node gives or asks."""
    found = [getattr(node, field, None) for field in ("id", "arg", "attr", "name", "asname")]
    return [name for name in found if isinstance(name, str)]


def own_attributes():
    """All methods and values that classes of the package give."""
    found = set()
    for name, node in nodes():
        if isinstance(node, ast.ClassDef):
            found |= {part.name for part in node.body if isinstance(part, ast.FunctionDef)}
        if isinstance(node, ast.Attribute) and isinstance(node.ctx, ast.Store):
            found.add(node.attr)
    return found


def parents(tree):
    """For each node that in which it stands."""
    return {part: node for node in ast.walk(tree) for part in ast.iter_child_nodes(node)}


def called(node):
    """The name of what a node calls; None of all other nodes."""
    return getattr(node.func, "id", getattr(node.func, "attr", None)) if isinstance(node, ast.Call) else None


def is_set(node):
    if isinstance(node, ast.BinOp):
        return is_set(node.left) or is_set(node.right)
    return isinstance(node, (ast.Set, ast.SetComp)) or called(node) in ("set", "frozenset")


def given_names(node):
    """All names that a def gives its parameters and locals."""
    return {part.arg for part in ast.walk(node) if isinstance(part, ast.arg)} | {
        part.id for part in ast.walk(node) if isinstance(part, ast.Name) and isinstance(part.ctx, ast.Store)}


class Language(unittest.TestCase):

    def test_files(self):
        others = [path.name for path in PACKAGE.iterdir() if path.name != "__pycache__" and path not in FILES]
        self.assertEqual(others, [])
        for path in FILES:
            self.assertRegex(path.name, r"\A(__init__|[a-z][a-z0-9_]*)\.py\Z")

    def test_rows_and_signs(self):
        for path in FILES:
            rows = path.read_text().split("\n")
            self.assertLessEqual(len(rows), 400, path.name)
            for number, row in enumerate(rows, start=1):
                self.assertRegex(row, r"\A[ -~]{0,120}\Z", (path.name, number))

    def test_words_that_stand_nowhere(self):
        for path in FILES:
            words = set(re.findall(r"[A-Za-z0-9_]+", path.read_text()))
            self.assertEqual(words & set(NO_WORDS), set(), path.name)
            self.assertNotRegex(path.read_text(), "dataclass|overload|contextmanager")

    def test_nodes(self):
        for name, node in nodes():
            self.assertIn(node.__class__.__name__, NODES, (name, getattr(node, "lineno", None)))

    def test_names(self):
        for name, node in nodes():
            for word in names_of(node):
                if isinstance(node, ast.alias) or word == "__init__":
                    continue
                self.assertRegex(word, r"\A[A-Za-z][A-Za-z0-9_]*\Z", (name, node.lineno))
                self.assertNotIn(word, NO_NAMES, (name, node.lineno))

    def test_names_of_python(self):
        for name, node in nodes():
            if isinstance(node, ast.Name) and node.id in vars(builtins):
                self.assertIsInstance(node.ctx, ast.Load, (name, node.lineno))
                self.assertIn(node.id, OWN_NAMES, (name, node.lineno))
            if isinstance(node, (ast.arg, ast.FunctionDef, ast.ClassDef)):
                self.assertFalse(any(word in vars(builtins) for word in names_of(node)), (name, node.lineno))

    def test_methods(self):
        known = set(METHODS) | own_attributes()
        for name, node in nodes():
            if isinstance(node, ast.Attribute):
                self.assertIn(node.attr, known, (name, node.lineno))

    def test_functions(self):
        for name, node in nodes():
            if isinstance(node, ast.FunctionDef):
                self.assertLessEqual(node.end_lineno - node.lineno + 1, 40, (name, node.name))
                self.assertEqual(node.decorator_list, [], (name, node.name))
                parameters = node.args
                self.assertEqual((parameters.vararg, parameters.kwarg, parameters.posonlyargs), (None, None, []))

    def test_imports(self):
        for name, tree in trees():
            for node in tree.body:
                if isinstance(node, ast.ImportFrom):
                    self.assertRegex(node.module, r"\Atextkinds\.[a-z_]+\Z", (name, node.lineno))
                    self.assertEqual(node.level, 0)
                    self.assertNotIn("*", [alias.name for alias in node.names])

    def test_the_top_of_a_file(self):
        for name, tree in trees():
            for node in tree.body:
                self.assertIsInstance(node, (ast.Expr, ast.ImportFrom, ast.FunctionDef, ast.ClassDef, ast.Assign), name)
            bound = [node.name for node in tree.body if isinstance(node, (ast.FunctionDef, ast.ClassDef))]
            for node in tree.body:
                if isinstance(node, ast.Assign):
                    bound += [target.id for target in node.targets]
                if isinstance(node, ast.ImportFrom):
                    bound += [alias.asname or alias.name for alias in node.names]
            self.assertEqual(len(bound), len(set(bound)), name)

    def test_is_stands_beside_plain_values(self):
        for name, node in nodes():
            if isinstance(node, ast.Compare) and any(isinstance(sign, (ast.Is, ast.IsNot)) for sign in node.ops):
                self.assertTrue(all(isinstance(right, ast.Constant) for right in node.comparators), (name, node.lineno))

    def test_no_local_is_called_like_an_import_or_a_class(self):
        for name, tree in trees():
            drawn = {alias.name for node in tree.body if isinstance(node, ast.ImportFrom) for alias in node.names}
            drawn |= {node.name for node in tree.body if isinstance(node, ast.ClassDef)}
            for node in tree.body:
                if isinstance(node, (ast.FunctionDef, ast.ClassDef)):
                    inner = {part.name for part in ast.walk(node) if isinstance(part, ast.FunctionDef)}
                    self.assertEqual((given_names(node) | inner - {node.name}) & drawn, set(), (name, node.name))

    def test_no_name_is_a_method_and_a_value(self):
        methods = set()
        for name, node in nodes():
            if isinstance(node, ast.ClassDef):
                methods |= {part.name for part in node.body if isinstance(part, ast.FunctionDef)}
        for name, node in nodes():
            if isinstance(node, ast.Attribute) and isinstance(node.ctx, ast.Store):
                self.assertNotIn(node.attr, methods, (name, node.lineno))

    def test_methods_are_called_where_they_stand(self):
        own = set()
        for name, node in nodes():
            if isinstance(node, ast.ClassDef):
                own |= {part.name for part in node.body if isinstance(part, ast.FunctionDef)}
        for name, tree in trees():
            above = parents(tree)
            for node in ast.walk(tree):
                if isinstance(node, ast.Attribute) and node.attr in own | set(METHODS):
                    place = above[node]
                    right = isinstance(place, ast.Call) and place.func is node or isinstance(place, ast.keyword)
                    self.assertTrue(right, (name, node.lineno))

    def test_sets_are_asked_on_the_spot(self):
        for name, tree in trees():
            above = parents(tree)
            for node in ast.walk(tree):
                if is_set(node) and not is_set(above[node]):
                    place = above[node]
                    right = called(place) in ("sorted", "len") or isinstance(place, ast.Compare)
                    kept = isinstance(place, ast.Assign) and isinstance(place.targets[0], ast.Name)
                    self.assertTrue(right or kept and not isinstance(node, ast.BinOp), (name, node.lineno))

    def test_walked_at_once(self):
        within = ("list", "tuple", "dict", "sorted", "sum", "any", "all", "enumerate", "zip", "bytes", "min", "max", "join")
        for name, tree in trees():
            above = parents(tree)
            for node in ast.walk(tree):
                if called(node) in ("zip", "enumerate", "reversed", "range", "items", "keys", "values"):
                    place = above[node]
                    walked = isinstance(place, (ast.For, ast.comprehension)) and place.iter is node
                    asked = isinstance(place, ast.Compare) and called(node) in ("range", "keys")
                    turned = called(place) == "reversed" and called(node) == "range"
                    self.assertTrue(walked or asked or turned or called(place) in within, (name, node.lineno))

    def test_lambdas_on_one_row(self):
        for name, tree in trees():
            found = [node for node in ast.walk(tree) if isinstance(node, ast.Lambda)]
            rows = [(node.lineno, tuple(part.arg for part in node.args.args)) for node in found]
            self.assertEqual(len(rows), len(set(rows)), name)

    def test_no_two_files_draw_from_one_another(self):
        drawn = {name[:-3]: [node.module.split(".")[1] for node in tree.body if isinstance(node, ast.ImportFrom)]
                 for name, tree in trees()}
        for round_number in range(len(drawn)):
            for name in [name for name, others in drawn.items() if not others]:
                del drawn[name]
            drawn = {name: [other for other in others if other in drawn] for name, others in drawn.items()}
        self.assertEqual(drawn, {})

    def test_plain_values(self):
        for name, node in nodes():
            if isinstance(node, ast.Constant):
                self.assertIsInstance(node.value, (int, str, bytes, bool, type(None)), (name, node.lineno))
                self.assertNotIn("%", str(node.value), (name, node.lineno))


if __name__ == "__main__":
    unittest.main()
