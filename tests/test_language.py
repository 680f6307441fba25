"""The package keeps to a small part of Python: those rules of it that can be seen by reading the files."""

import ast
import builtins
import pathlib
import re
import unittest

PACKAGE = pathlib.Path(__file__).resolve().parent.parent / "squaresheet"
FILES = sorted(PACKAGE.glob("*.py"))

NODES = set("""
    Module FunctionDef ClassDef Return Assign AugAssign For While If Raise Try ImportFrom Expr Pass Break Continue
    BoolOp BinOp UnaryOp Lambda IfExp Dict Set ListComp Compare Call FormattedValue JoinedStr Constant Attribute
    Subscript Name List Tuple Slice Load Store And Or Add Sub Mult FloorDiv Mod Pow LShift RShift BitOr BitXor BitAnd
    Invert Not UAdd USub Eq NotEq Lt LtE Gt GtE Is IsNot In NotIn comprehension ExceptHandler arguments arg keyword
    alias
""".split())
OWN_NAMES = set("""
    len range enumerate zip min max sum abs sorted reversed int str bool list tuple dict set frozenset isinstance ord
    repr any all divmod Exception ValueError TypeError KeyError IndexError LookupError ZeroDivisionError
    ArithmeticError OverflowError RuntimeError NotImplementedError AttributeError StopIteration
""".split())
METHODS = set("""
    append clear copy count endswith extend find get index insert isalnum isalpha isdigit islower isspace isupper
    items join keys ljust lower lstrip partition pop remove replace reverse rfind rjust rpartition rsplit rstrip
    setdefault split splitlines startswith strip update upper values zfill bit_length
""".split())
TWO_UNDERSCORES = {"__init__", "__eq__", "__repr__", "__str__", "__len__"}
WORDS = re.compile(
    r"\b(type|typing|typing_extensions|enum|Enum|IntEnum|StrEnum|Flag|IntFlag|Generic|Protocol|ABC|ABCMeta"
    r"|namedtuple|NamedTuple|TypedDict|TYPE_CHECKING|abstractmethod)\b|dataclass|overload|contextmanager"
)


def nodes_of(tree, *kinds):
    return [node for node in ast.walk(tree) if isinstance(node, kinds)]


def top_names(tree):
    names = [node.name for node in tree.body if isinstance(node, (ast.FunctionDef, ast.ClassDef))]
    return names + [target.id for node in tree.body if isinstance(node, ast.Assign) for target in node.targets]


class Language(unittest.TestCase):
    @classmethod
    def setUpClass(cls):
        cls.texts = {path.stem: path.read_text("utf-8") for path in FILES}
        cls.trees = {name: ast.parse(text) for name, text in cls.texts.items()}
        cls.methods = {
            method.name
            for tree in cls.trees.values()
            for owner in nodes_of(tree, ast.ClassDef)
            for method in nodes_of(owner, ast.FunctionDef)
        }

    def each_tree(self):
        for name, tree in self.trees.items():
            with self.subTest(file=name):
                yield name, tree

    def test_files(self):
        self.assertIn("__init__", self.texts)
        for path in PACKAGE.iterdir():
            if path.name != "__pycache__":
                self.assertRegex(path.name, r"^([a-z][a-z0-9_]*|__init__|__main__)\.py$")

    def test_signs_words_and_sizes(self):
        for name, text in self.texts.items():
            rows = text.split("\n")
            with self.subTest(file=name):
                self.assertRegex(text, r"\A[ -~\n]*\Z")
                self.assertIsNone(WORDS.search(text))
                self.assertLessEqual(len(rows), 400)
                self.assertLessEqual(max(len(row) for row in rows), 120)

    def test_functions_are_short_and_plain(self):
        for name, tree in self.each_tree():
            for node in nodes_of(tree, ast.FunctionDef):
                self.assertLessEqual(node.end_lineno - node.lineno + 1, 40, node.name)
                self.assertEqual(node.decorator_list, [], node.name)
                plain = node.args
                self.assertFalse(plain.vararg or plain.kwarg or plain.kwonlyargs or plain.posonlyargs, node.name)

    def test_only_the_forms_that_are_allowed(self):
        for name, tree in self.each_tree():
            for node in ast.walk(tree):
                self.assertIn(node.__class__.__name__, NODES, getattr(node, "lineno", None))
            for node in nodes_of(tree, ast.Constant):
                self.assertIn(node.value.__class__, (int, str, bool, None.__class__), node.lineno)
            for node in nodes_of(tree, ast.For, ast.While):
                self.assertEqual(node.orelse, [], node.lineno)
            for node in nodes_of(tree, ast.Try):
                self.assertEqual(node.finalbody, [], node.lineno)
            for node in nodes_of(tree, ast.Assign):
                self.assertEqual(len(node.targets), 1, node.lineno)

    def test_imports_come_from_the_file_that_defines_the_name(self):
        for name, tree in self.each_tree():
            for node in nodes_of(tree, ast.ImportFrom):
                self.assertIn(node, tree.body)
                package, dot, module = node.module.partition(".")
                self.assertEqual((node.level, package), (0, "squaresheet"))
                self.assertLessEqual({alias.name for alias in node.names}, set(top_names(self.trees[module])))

    def test_no_two_files_draw_from_one_another(self):
        drawn = {
            name: {node.module.partition(".")[2] for node in nodes_of(tree, ast.ImportFrom)}
            for name, tree in self.trees.items()
        }
        while drawn:
            free = [name for name in drawn if not drawn[name] & set(drawn)]
            self.assertTrue(free, drawn)
            drawn = {name: drawn[name] for name in drawn if name not in free}

    def test_names(self):
        for name, tree in self.each_tree():
            tops = top_names(tree)
            self.assertEqual(len(tops), len(set(tops)))
            for node in nodes_of(tree, ast.Name):
                self.assertFalse(node.id.startswith("_"), node.id)
                if isinstance(node.ctx, ast.Store) or node.id not in OWN_NAMES:
                    self.assertFalse(hasattr(builtins, node.id), node.id)
            for node in nodes_of(tree, ast.arg):
                self.assertFalse(node.arg.startswith("_") or hasattr(builtins, node.arg), node.arg)

    def test_methods(self):
        for name, tree in self.each_tree():
            for node in nodes_of(tree, ast.Call):
                if isinstance(node.func, ast.Attribute):
                    self.assertIn(node.func.attr, METHODS | self.methods | TWO_UNDERSCORES, node.lineno)
            for owner in nodes_of(tree, ast.ClassDef):
                self.assertLessEqual(len(owner.bases), 1, owner.name)
                for method in nodes_of(owner, ast.FunctionDef):
                    self.assertTrue(method.name in TWO_UNDERSCORES or not method.name.startswith("_"), method.name)

    def test_no_name_is_a_method_in_one_class_and_a_value_in_another(self):
        values = {
            node.attr
            for tree in self.trees.values()
            for node in nodes_of(tree, ast.Attribute)
            if isinstance(node.ctx, ast.Store)
        }
        self.assertEqual(values & self.methods, set())

    def test_texts_and_numbers(self):
        for name, tree in self.each_tree():
            for node in nodes_of(tree, ast.Constant):
                self.assertNotIn("%", str(node.value), node.lineno)
            for node in nodes_of(tree, ast.FormattedValue):
                self.assertIsInstance(node.value, ast.Name, node.lineno)
                self.assertIsNone(node.format_spec, node.lineno)
            for node in nodes_of(tree, ast.BinOp):
                self.assertNotIsInstance(node.op, ast.Pow, node.lineno)

    def test_comprehensions_have_one_for_and_at_most_one_if(self):
        for name, tree in self.each_tree():
            for node in nodes_of(tree, ast.ListComp):
                self.assertEqual(len(node.generators), 1, node.lineno)
                self.assertLessEqual(len(node.generators[0].ifs), 1, node.lineno)

    def test_is_stands_beside_none_and_truths_alone(self):
        for name, tree in self.each_tree():
            for node in nodes_of(tree, ast.Compare):
                if any(isinstance(sign, (ast.Is, ast.IsNot)) for sign in node.ops):
                    self.assertIsInstance(node.comparators[0], ast.Constant, node.lineno)

    def test_no_local_is_called_like_a_class_or_an_import_of_its_file(self):
        for name, tree in self.each_tree():
            taken = {alias.name for node in nodes_of(tree, ast.ImportFrom) for alias in node.names}
            taken |= {node.name for node in nodes_of(tree, ast.ClassDef)}
            tops = {target for node in tree.body if isinstance(node, ast.Assign) for target in node.targets}
            for node in nodes_of(tree, ast.Name):
                if isinstance(node.ctx, ast.Store) and node not in tops:
                    self.assertNotIn(node.id, taken, node.lineno)
            for node in nodes_of(tree, ast.arg):
                self.assertNotIn(node.arg, taken, node.lineno)

    def test_what_a_file_keeps_is_plain(self):
        for name, tree in self.each_tree():
            for node in tree.body:
                self.assertIsInstance(node, (ast.Expr, ast.ImportFrom, ast.Assign, ast.FunctionDef, ast.ClassDef))
                if isinstance(node, ast.Assign) and isinstance(node.value, (ast.List, ast.Dict)):
                    self.assertEqual(len(nodes_of(node.value, ast.List, ast.Dict, ast.Set, ast.Call)), 1, node.lineno)

    def test_walked_at_once(self):
        kept_not = {"zip", "enumerate", "reversed", "range"}
        for name, tree in self.each_tree():
            for node in nodes_of(tree, ast.Assign, ast.Return):
                value = node.value
                if isinstance(value, ast.Call) and isinstance(value.func, ast.Name):
                    self.assertNotIn(value.func.id, kept_not | {"set", "frozenset"}, node.lineno)

    def test_only_error_classes_by_name_are_taken(self):
        for name, tree in self.each_tree():
            for node in nodes_of(tree, ast.ExceptHandler):
                self.assertIsNotNone(node.type, node.lineno)
                for kind in nodes_of(node.type, ast.Name):
                    self.assertIn(kind.id, top_names(self.trees["errors"]), node.lineno)
            for node in nodes_of(tree, ast.Raise):
                self.assertIsInstance(node.exc, ast.Call, node.lineno)

    def test_each_function_and_module_is_used_or_told_by_the_document(self):
        # What nobody calls any more would only be in the way.
        told = (PACKAGE.parent / "tests" / "test_interface.py").read_text("utf-8")
        used = {node.id for tree in self.trees.values() for node in nodes_of(tree, ast.Name)}
        for name, tree in self.each_tree():
            for node in tree.body:
                if isinstance(node, ast.FunctionDef):
                    self.assertTrue(node.name in used or f'"{node.name}(' in told, node.name)
