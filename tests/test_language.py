"""The package's own files keep to the small part of Python that the program is written in (the rules L1 to L28)."""

import ast
import pathlib
import re
import unittest

PACKAGE = pathlib.Path(__file__).resolve().parent.parent / "chainturn"
FILES = sorted(PACKAGE.rglob("*.py"))

NODES = """Module Expr FunctionDef arguments arg Return ClassDef Assign AugAssign If While For Break Continue Pass Raise
Try ExceptHandler ImportFrom alias Name Load Store Constant List Tuple Dict Set Call keyword Attribute Subscript Slice
BinOp Add Sub Mult FloorDiv Mod Pow BitAnd BitOr BitXor LShift RShift UnaryOp Not USub UAdd Invert BoolOp And Or
Compare Eq NotEq Lt LtE Gt GtE In NotIn Is IsNot IfExp Lambda ListComp comprehension JoinedStr
FormattedValue""".split()
OWN_OF_PYTHON = """len range enumerate zip min max sum abs sorted reversed int str bool list tuple dict set frozenset
isinstance ord repr any all divmod Exception ValueError TypeError KeyError IndexError LookupError ZeroDivisionError
ArithmeticError OverflowError RuntimeError NotImplementedError StopIteration""".split()
METHODS = """append clear copy count endswith extend find get index insert isalnum isalpha isdigit islower isspace
isupper items join keys ljust lower lstrip partition pop remove replace reverse rfind rjust rpartition rsplit rstrip
setdefault split splitlines startswith strip update upper values zfill bit_length __init__""".split()
TWO_UNDERSCORES = ["__init__", "__eq__", "__repr__", "__str__", "__len__"]
WORDS = """type typing typing_extensions enum Enum IntEnum StrEnum Flag IntFlag Generic Protocol ABC ABCMeta namedtuple
NamedTuple TypedDict TYPE_CHECKING abstractmethod""".split()
UNUSED = """register mro elements open input version_info with_traceback add_note format format_map attrgetter
breakpoint builtins compile copyright credits delattr dir eval exec exit gc getattr globals hasattr help id importlib
license locals methodcaller os quit setattr super vars sys chr""".split()
PYTHONS = dir(__builtins__) if not isinstance(__builtins__, dict) else list(__builtins__)


def trees():
    return [(path.name, ast.parse(path.read_text(encoding="utf-8"))) for path in FILES]


def bound_names(tree):
    """All names that the file itself gives a meaning to, with their lines."""
    for node in ast.walk(tree):
        if isinstance(node, (ast.FunctionDef, ast.ClassDef)):
            yield node.name, node.lineno
        elif isinstance(node, ast.arg):
            yield node.arg, node.lineno
        elif isinstance(node, ast.Name) and isinstance(node.ctx, ast.Store):
            yield node.id, node.lineno
        elif isinstance(node, ast.Attribute) and isinstance(node.ctx, ast.Store):
            yield node.attr, node.lineno
        elif isinstance(node, ast.alias):
            yield node.asname or node.name, node.lineno


class Language(unittest.TestCase):
    def test_files(self):
        self.assertIn(PACKAGE / "__init__.py", FILES)
        for path in PACKAGE.rglob("*"):
            if "__pycache__" not in path.parts:
                self.assertRegex(path.name, r"^([a-z][a-z0-9_]*|__init__|__main__)\.py$")

    def test_signs_and_sizes(self):
        for path in FILES:
            text = path.read_text(encoding="utf-8")
            self.assertEqual([], [sign for sign in text if not (" " <= sign <= "~" or sign == "\n")], path.name)
            rows = text.splitlines()
            self.assertLessEqual(len(rows), 400, path.name)
            self.assertEqual([], [row for row in rows if len(row) > 120], path.name)
            self.assertEqual([], [word for word in WORDS if re.search(rf"\b{word}\b", text)], path.name)
            self.assertIsNone(re.search("dataclass|overload|contextmanager", text), path.name)

    def test_forms(self):
        for name, tree in trees():
            for node in ast.walk(tree):
                at = (name, getattr(node, "lineno", 0), ast.dump(node)[:80])
                self.assertIn(type(node).__name__, NODES, at)
                if isinstance(node, ast.FunctionDef):
                    self.assertLessEqual(node.end_lineno - node.lineno + 1, 40, at)
                if isinstance(node, (ast.FunctionDef, ast.ClassDef)):
                    self.assertEqual([], node.decorator_list, at)
                if isinstance(node, ast.arguments):
                    self.assertFalse(node.vararg or node.kwarg or node.kwonlyargs or node.posonlyargs, at)
                if isinstance(node, ast.Assign):
                    self.assertEqual(1, len(node.targets), at)
                if isinstance(node, (ast.For, ast.While)):
                    self.assertEqual([], node.orelse, at)
                if isinstance(node, ast.Try):
                    self.assertEqual([], node.finalbody, at)
                if isinstance(node, ast.ListComp):
                    self.assertTrue(len(node.generators) == 1 and len(node.generators[0].ifs) <= 1, at)
                if isinstance(node, ast.Constant):
                    self.assertIn(type(node.value), (int, str, bool, type(None)), at)

    def test_statements_by_themselves_are_calls(self):
        for name, tree in trees():
            for node in ast.walk(tree):
                if isinstance(node, ast.Expr) and node is not tree.body[0]:
                    self.assertIsInstance(node.value, ast.Call, (name, node.lineno))

    def test_top_of_a_file(self):
        for name, tree in trees():
            self.assertTrue(ast.get_docstring(tree), name)
            bound = [node.name for node in tree.body if isinstance(node, (ast.FunctionDef, ast.ClassDef))]
            for node in tree.body[1:]:
                self.assertIsInstance(node, (ast.ImportFrom, ast.FunctionDef, ast.ClassDef, ast.Assign), name)
                if isinstance(node, ast.Assign):
                    bound.append(node.targets[0].id)
                if isinstance(node, ast.ImportFrom):
                    self.assertEqual(0, node.level, name)
                    self.assertTrue(node.module.startswith("chainturn."), (name, node.module))
                    self.assertNotIn("*", [alias.name for alias in node.names], name)
            self.assertEqual(len(bound), len(set(bound)), name)

    def test_names(self):
        for name, tree in trees():
            own = dict(bound_names(tree))
            for word, line in bound_names(tree):
                self.assertRegex(word, r"^([A-Za-z][A-Za-z0-9_]*|__[a-z]+__)$", (name, line))
                self.assertFalse(word.startswith("__") and word not in TWO_UNDERSCORES, (name, line, word))
                self.assertNotIn(word, UNUSED, (name, line))
            for node in ast.walk(tree):
                if isinstance(node, ast.Name):
                    at = (name, node.lineno, node.id)
                    if isinstance(node.ctx, ast.Load):
                        self.assertTrue(node.id in own or node.id in OWN_OF_PYTHON, at)
                    else:
                        self.assertNotIn(node.id, PYTHONS, at)
                if isinstance(node, ast.arg):
                    self.assertNotIn(node.arg, PYTHONS, (name, node.lineno))

    def test_methods(self):
        own = []
        for _, tree in trees():
            for node in ast.walk(tree):
                if isinstance(node, ast.ClassDef):
                    own.extend(part.name for part in node.body if isinstance(part, ast.FunctionDef))
        for name, tree in trees():
            for node in ast.walk(tree):
                if isinstance(node, ast.Call) and isinstance(node.func, ast.Attribute):
                    self.assertIn(node.func.attr, METHODS + own, (name, node.lineno))

    def test_no_local_is_called_like_a_class_or_an_import(self):
        for name, tree in trees():
            taken = [alias.name for node in tree.body if isinstance(node, ast.ImportFrom) for alias in node.names]
            taken.extend(node.name for node in tree.body if isinstance(node, ast.ClassDef))
            for node in ast.walk(tree):
                if isinstance(node, ast.Name) and isinstance(node.ctx, ast.Store):
                    self.assertNotIn(node.id, taken, (name, node.lineno))
                if isinstance(node, ast.arg):
                    self.assertNotIn(node.arg, taken, (name, node.lineno))

    def test_no_name_is_a_method_and_a_value(self):
        methods = []
        stored = []
        for _, tree in trees():
            for node in ast.walk(tree):
                if isinstance(node, ast.ClassDef):
                    methods.extend(part.name for part in node.body if isinstance(part, ast.FunctionDef))
                if isinstance(node, ast.Attribute) and isinstance(node.ctx, ast.Store):
                    stored.append(node.attr)
        self.assertEqual(set(), set(methods) & set(stored))

    def test_powers_and_is(self):
        for name, tree in trees():
            for node in ast.walk(tree):
                if isinstance(node, ast.BinOp) and isinstance(node.op, ast.Pow):
                    self.assertIsInstance(node.right, ast.Constant, (name, node.lineno))
                    self.assertTrue(0 <= node.right.value <= 64, (name, node.lineno))
                if isinstance(node, ast.Compare) and isinstance(node.ops[0], (ast.Is, ast.IsNot)):
                    beside = [side.value for side in [node.left] + node.comparators if isinstance(side, ast.Constant)]
                    self.assertTrue(any(side is None or isinstance(side, bool) for side in beside), (name, node.lineno))

    def test_sets_are_asked_on_the_spot(self):
        for name, tree in trees():
            allowed = []
            for node in ast.walk(tree):
                if isinstance(node, ast.Call) and isinstance(node.func, ast.Name) and node.func.id in ("sorted", "len"):
                    allowed.extend(node.args)
                if isinstance(node, ast.Compare) and isinstance(node.ops[0], (ast.In, ast.NotIn, ast.Eq, ast.NotEq)):
                    allowed.extend([node.left] + node.comparators)
            for node in ast.walk(tree):
                if isinstance(node, ast.Call) and isinstance(node.func, ast.Name) and node.func.id == "set":
                    self.assertIn(node, allowed, (name, node.lineno))
                self.assertNotIsInstance(node, ast.Set, (name, getattr(node, "lineno", 0)))

    def test_lists_and_dicts_of_a_files_top_are_plain_and_only_read(self):
        for name, tree in trees():
            tops = []
            for node in tree.body:
                if isinstance(node, ast.Assign) and isinstance(node.value, (ast.List, ast.Dict)):
                    tops.append(node.targets[0].id)
                    for part in list(ast.walk(node.value))[1:]:
                        self.assertNotIsInstance(part, (ast.List, ast.Dict, ast.Call), (name, node.lineno))
            read = []
            for node in ast.walk(tree):
                if isinstance(node, ast.Subscript) and isinstance(node.ctx, ast.Load):
                    read.append(node.value)
                if isinstance(node, (ast.For, ast.comprehension)):
                    read.append(node.iter)
                if isinstance(node, ast.Compare):
                    read.extend([node.left] + node.comparators)
                if isinstance(node, ast.Call) and isinstance(node.func, ast.Name):
                    read.extend(node.args if node.func.id in ("len", "list", "dict", "tuple", "sorted") else [])
                if isinstance(node, ast.Attribute) and node.attr in ("get", "index", "count"):
                    read.append(node.value)
            for node in ast.walk(tree):
                if isinstance(node, ast.Name) and isinstance(node.ctx, ast.Load) and node.id in tops:
                    self.assertIn(node, read, (name, node.lineno))

    def test_no_two_files_draw_from_one_another(self):
        drawn = {}
        for name, tree in trees():
            drawn[name[:-3]] = [node.module.split(".")[1] for node in tree.body if isinstance(node, ast.ImportFrom)]
        while drawn:
            free = [name for name in drawn if not any(other in drawn for other in drawn[name])]
            self.assertTrue(free, f"a ring among {sorted(drawn)}")
            drawn = {name: others for name, others in drawn.items() if name not in free}


if __name__ == "__main__":
    unittest.main()
