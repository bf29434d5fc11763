"""Holds the package against those rules of its language that are easily seen."""

import ast
import builtins
import re
import unittest
from pathlib import Path

PACKAGE = Path(__file__).resolve().parent.parent / "coinledgers"
FILES = sorted(path for path in PACKAGE.iterdir() if path.name != "__pycache__")

NODES = (
    "Module FunctionDef ClassDef arguments arg Return Assign AugAssign For While If Raise Try ExceptHandler Pass Break "
    "Continue ImportFrom alias Expr Call Name Attribute Subscript Slice Constant List Tuple Dict ListComp "
    "comprehension BinOp UnaryOp BoolOp Compare IfExp Lambda JoinedStr FormattedValue keyword Load Store "
    "Add Sub Mult FloorDiv Mod Pow USub Not And Or Eq NotEq Lt LtE Gt GtE In NotIn Is IsNot"
).split()
OWN_NAMES = (
    "len range enumerate zip min max sum abs sorted reversed int str bool list tuple dict set frozenset isinstance "
    "ord repr any all divmod Exception ValueError KeyError IndexError LookupError ZeroDivisionError"
).split()
METHODS = "append extend get index insert items keys pop values copy join".split()
UNUSED_NAMES = "register mro elements open input version_info type vars dir id help exit format sort".split()
UNUSED_WORDS = (
    "type typing typing_extensions enum Enum IntEnum StrEnum Flag IntFlag Generic Protocol ABC ABCMeta namedtuple "
    "NamedTuple TypedDict TYPE_CHECKING abstractmethod dataclass overload contextmanager"
).split()


def bound_names(tree):
    for node in ast.walk(tree):
        if isinstance(node, (ast.FunctionDef, ast.ClassDef)):
            yield node.name
        if isinstance(node, ast.arg):
            yield node.arg
        if isinstance(node, ast.Name) and isinstance(node.ctx, ast.Store):
            yield node.id
        if isinstance(node, ast.Attribute) and isinstance(node.ctx, ast.Store):
            yield node.attr


class LanguageTest(unittest.TestCase):
    def each(self):
        for path in FILES:
            source = path.read_text(encoding="utf-8")
            yield path, source, ast.parse(source)

    def test_files(self):
        for path in FILES:
            self.assertRegex(path.name, r"^[a-z_0-9]+\.py$")

    def test_signs_and_sizes(self):
        for path, source, tree in self.each():
            self.assertRegex(source, r"\A[ -~\n]*\Z")
            self.assertLessEqual(len(source.splitlines()), 399)
            self.assertLessEqual(max(len(line) for line in source.splitlines()), 120)
            for node in ast.walk(tree):
                if isinstance(node, ast.FunctionDef):
                    self.assertLessEqual(node.end_lineno - node.lineno + 1, 40, node.name)

    def test_forms(self):
        for path, source, tree in self.each():
            for node in ast.walk(tree):
                self.assertIn(node.__class__.__name__, NODES)
                if isinstance(node, ast.Constant):
                    self.assertIn(node.value.__class__, (int, str, bool, None.__class__))
                if isinstance(node, ast.Assign):
                    self.assertEqual(len(node.targets), 1)
                if isinstance(node, ast.Expr) and node is not tree.body[0]:
                    self.assertIsInstance(node.value, ast.Call)

    def test_imports(self):
        for path, source, tree in self.each():
            for node in ast.walk(tree):
                if isinstance(node, ast.ImportFrom):
                    self.assertRegex(node.module, r"^coinledgers\.[a-z]+$")
                    other = ast.parse((PACKAGE / (node.module.split(".")[1] + ".py")).read_text())
                    for name in node.names:
                        self.assertIn(name.name, list(bound_names(other)))

    def test_names(self):
        for path, source, tree in self.each():
            for name in bound_names(tree):
                self.assertRegex(name, r"^([A-Za-z][A-Za-z0-9_]*|__init__)$")
                self.assertNotIn(name, dir(builtins))
                self.assertNotIn(name, UNUSED_NAMES)
            for node in ast.walk(tree):
                if isinstance(node, ast.Name) and node.id in dir(builtins):
                    self.assertIn(node.id, OWN_NAMES)
                if isinstance(node, ast.Call) and isinstance(node.func, ast.Attribute):
                    self.assertIn(node.func.attr, METHODS)

    def test_top_of_a_file(self):
        for path, source, tree in self.each():
            self.assertIsInstance(tree.body[0], ast.Expr)
            names = []
            for node in tree.body[1:]:
                self.assertIsInstance(node, (ast.ImportFrom, ast.FunctionDef, ast.ClassDef, ast.Assign))
                names.extend([node.name] if hasattr(node, "name") else [])
                if isinstance(node, ast.Assign):
                    names.append(node.targets[0].id)
                    held = [part for part in ast.walk(node.value) if part is not node.value]
                    self.assertFalse([part for part in held if isinstance(part, (ast.List, ast.Dict, ast.Name))])
            self.assertEqual(len(names), len(set(names)))

    # What a file's top holds is asked by an index alone, so that nothing of it is handed on or changed.
    def test_kept_values_are_only_read(self):
        for path, source, tree in self.each():
            kept = [node.targets[0].id for node in tree.body if isinstance(node, ast.Assign)
                    and isinstance(node.value, (ast.List, ast.Dict, ast.Tuple))]
            indexed = [node.value for node in ast.walk(tree) if isinstance(node, ast.Subscript)
                       and isinstance(node.ctx, ast.Load)]
            for node in ast.walk(tree):
                if isinstance(node, ast.Name) and isinstance(node.ctx, ast.Load) and node.id in kept:
                    self.assertIn(node, indexed)

    def test_locals_are_not_called_like_imports_or_classes(self):
        for path, source, tree in self.each():
            taken = [node.name for node in tree.body if isinstance(node, ast.ClassDef)]
            for node in tree.body:
                taken.extend([name.name for name in node.names] if isinstance(node, ast.ImportFrom) else [])
            for function in ast.walk(tree):
                if isinstance(function, (ast.FunctionDef, ast.Lambda)):
                    self.assertFalse(set(taken) & set(bound_names(function)))

    def test_is_stands_beside_none(self):
        for path, source, tree in self.each():
            for node in ast.walk(tree):
                if isinstance(node, ast.Compare) and isinstance(node.ops[0], (ast.Is, ast.IsNot)):
                    self.assertIsInstance(node.comparators[0], ast.Constant)
                    self.assertIn(node.comparators[0].value, (None, True, False))

    def test_functions(self):
        for path, source, tree in self.each():
            for node in ast.walk(tree):
                if isinstance(node, ast.FunctionDef):
                    self.assertFalse(node.decorator_list)
                if isinstance(node, (ast.FunctionDef, ast.Lambda)):
                    self.assertIsNone(node.args.vararg)
                    self.assertIsNone(node.args.kwarg)
                    self.assertFalse(node.args.kwonlyargs)

    def test_words(self):
        for path, source, tree in self.each():
            words = re.findall(r"[A-Za-z_]+", source)
            for word in UNUSED_WORDS:
                self.assertNotIn(word, words)

    def test_walked_at_once(self):
        for path, source, tree in self.each():
            for node in ast.walk(tree):
                if isinstance(node, (ast.Assign, ast.Return)) and isinstance(node.value, ast.Call):
                    called = getattr(node.value.func, "id", getattr(node.value.func, "attr", ""))
                    self.assertNotIn(called, ("range", "zip", "enumerate", "reversed", "items", "keys", "values"))

    def test_no_circle(self):
        drawn = {}
        for path, source, tree in self.each():
            rows = [node for node in tree.body if isinstance(node, ast.ImportFrom)]
            drawn[path.stem] = {node.module.split(".")[1] for node in rows}
        while drawn:
            free = [name for name, others in drawn.items() if not others & set(drawn)]
            self.assertTrue(free, drawn)
            for name in free:
                drawn.pop(name)
