"""The package keeps to a small part of Python: those rules of it that can be seen by reading the files."""

import ast
import builtins
import pathlib
import re
import unittest

PACKAGE = pathlib.Path(__file__).resolve().parent.parent / "squaresheet"
FILES = sorted(PACKAGE.glob("*.py"))

NODES = set("""
    Module FunctionDef ClassDef Return Assign AugAssign For While If Raise Try ImportFrom Expr Pass Break Continue
    BoolOp BinOp UnaryOp Lambda IfExp Dict Set ListComp Compare Call FormattedValue JoinedStr Constant Attribute
    Subscript Name List Tuple Slice Load Store And Or Add Sub Mult FloorDiv Mod Pow LShift RShift BitOr BitXor BitAnd
    Invert Not UAdd USub Eq NotEq Lt LtE Gt GtE Is IsNot In NotIn comprehension ExceptHandler arguments arg keyword
    alias
""".split())
OWN_NAMES = set("""
    len range enumerate zip min max sum abs sorted reversed int str bool list tuple dict set frozenset isinstance ord
    repr any all divmod Exception ValueError TypeError KeyError IndexError LookupError ZeroDivisionError
    ArithmeticError OverflowError RuntimeError NotImplementedError AttributeError StopIteration
""".split())
METHODS = set("""
    append clear copy count endswith extend find get index insert isalnum isalpha isdigit islower isspace isupper
    items join keys ljust lower lstrip partition pop remove replace reverse rfind rjust rpartition rsplit rstrip
    setdefault split splitlines startswith strip update upper values zfill bit_length
""".split())
TWO_UNDERSCORES = {"__init__", "__eq__", "__repr__", "__str__", "__len__"}
WORDS = re.compile(
    r"\b(type|typing|typing_extensions|enum|Enum|IntEnum|StrEnum|Flag|IntFlag|Generic|Protocol|ABC|ABCMeta"
    r"|namedtuple|NamedTuple|TypedDict|TYPE_CHECKING|abstractmethod)\b|dataclass|overload|contextmanager"
)


def nodes_of(tree, *kinds):
    return [node for node in ast.walk(tree) if isinstance(node, kinds)]


def top_names(tree):
    names = [node.name for node in tree.body if isinstance(node, (ast.FunctionDef, ast.ClassDef))]
    return names + [target.id for node in tree.body if isinstance(node, ast.Assign) for target in node.targets]


class Language(unittest.TestCase):
    @classmethod
    def setUpClass(cls):
        cls.texts = {path.stem: path.read_text("utf-8") for path in FILES}
        cls.trees = {name: ast.parse(text) for name, text in cls.texts.items()}
        cls.methods = {
            method.name
            for tree in cls.trees.values()
            for owner in nodes_of(tree, ast.ClassDef)
            for method in nodes_of(owner, ast.FunctionDef)
        }

    def each_tree(self):
        for name, tree in self.trees.items():
            with self.subTest(file=name):
                yield name, tree

    def test_files(self):
        self.assertIn("__init__", self.texts)
        for path in PACKAGE.iterdir():
            if path.name != "__pycache__":
                self.assertRegex(path.name, r"^([a-z][a-z0-9_]*|__init__|__main__)\.py$")

    def test_signs_words_and_sizes(self):
        for name, text in self.texts.items():
            rows = text.split("\n")
            with self.subTest(file=name):
                self.assertRegex(text, r"\A[ -~\n]*\Z")
                self.assertIsNone(WORDS.search(text))
                self.assertLessEqual(len(rows), 400)
                self.assertLessEqual(max(len(row) for row in rows), 120)

    def test_functions_are_short_and_plain(self):
        for name, tree in self.each_tree():
            for node in nodes_of(tree, ast.FunctionDef):
                self.assertLessEqual(node.end_lineno - node.lineno + 1, 40, node.name)
                self.assertEqual(node.decorator_list, [], node.name)
                plain = node.args
                self.assertFalse(plain.vararg or plain.kwarg or plain.kwonlyargs or plain.posonlyargs, node.name)

    def test_only_the_forms_that_are_allowed(self):
        for name, tree in self.each_tree():
            for node in ast.walk(tree):
                self.assertIn(node.__class__.__name__, NODES, getattr(node, "lineno", None))
            for node in nodes_of(tree, ast.Constant):
                self.assertIn(node.value.__class__, (int, str, bool, None.__class__), node.lineno)
            for node in nodes_of(tree, ast.For, ast.While):
                self.assertEqual(node.orelse, [], node.lineno)
            for node in nodes_of(tree, ast.Try):
                self.assertEqual(node.finalbody, [], node.lineno)
            for node in nodes_of(tree, ast.Assign):
                self.assertEqual(len(node.targets), 1, node.lineno)

    def test_imports_come_from_the_file_that_defines_the_name(self):
        for name, tree in self.each_tree():
            for node in nodes_of(tree, ast.ImportFrom):
                self.assertIn(node, tree.body)
                package, dot, module = node.module.partition(".")
                self.assertEqual((node.level, package), (0, "squaresheet"))
                self.assertLessEqual({alias.name for alias in node.names}, set(top_names(self.trees[module])))

    def test_no_two_files_draw_from_one_another(self):
        drawn = {
            name: {node.module.partition(".")[2] for node in nodes_of(tree, ast.ImportFrom)}
            for name, tree in self.trees.items()
        }
        while drawn:
            free = [name for name in drawn if not drawn[name] & set(drawn)]
            self.assertTrue(free, drawn)
            drawn = {name: drawn[name] for name in drawn if name not in free}

    def test_names(self):
        for name, tree in self.each_tree():
            tops = top_names(tree)
            self.assertEqual(len(tops), len(set(tops)))
            for node in nodes_of(tree, ast.Name):
                self.assertFalse(node.id.startswith("_"), node.id)
                if isinstance(node.ctx, ast.Store) or node.id not in OWN_NAMES:
                    self.assertFalse(hasattr(builtins, node.id), node.id)
            for node in nodes_of(tree, ast.arg):
                self.assertFalse(node.arg.startswith("_") or hasattr(builtins, node.arg), node.arg)

    def test_methods(self):
        for name, tree in self.each_tree():
            for node in nodes_of(tree, ast.Call):
                if isinstance(node.func, ast.Attribute):
                    self.assertIn(node.func.attr, METHODS | self.methods | TWO_UNDERSCORES, node.lineno)
            for owner in nodes_of(tree, ast.ClassDef):
                self.assertLessEqual(len(owner.bases), 1, owner.name)
                for method in nodes_of(owner, ast.FunctionDef):
                    self.assertTrue(method.name in TWO_UNDERSCORES or not method.name.startswith("_"), method.name)

    def test_no_name_is_a_method_in_one_class_and_a_value_in_another(self):
        values = {
            node.attr
            for tree in self.trees.values()
            for node in nodes_of(tree, ast.Attribute)
            if isinstance(node.ctx, ast.Store)
        }
        # The methods of classes that are still to come, as the document tells them.
        self.assertEqual(values & (self.methods | {"done", "back", "shown", "say", "sheet", "steps"}), set())
