"""Some rules of the language in which the package is written, as far as they are easily seen."""

import ast
import pathlib
import re
import unittest

FOLDER = pathlib.Path(__file__).resolve().parent.parent / "salebids"
BARRED_WORDS = (
    "type", "typing", "typing_extensions", "enum", "Enum", "IntEnum", "StrEnum", "Flag", "IntFlag", "Generic",
    "Protocol", "ABC", "ABCMeta", "namedtuple", "NamedTuple", "TypedDict", "TYPE_CHECKING", "abstractmethod",
)
BUILTINS = (
    "len", "range", "enumerate", "zip", "min", "max", "sum", "abs", "sorted", "reversed", "int", "str", "bool", "list",
    "tuple", "dict", "set", "isinstance", "ord", "repr", "any", "all", "divmod", "ValueError", "TypeError", "KeyError",
    "IndexError", "LookupError", "ArithmeticError", "property", "staticmethod", "classmethod", "iter", "next", "super",
)
EVERY_BUILTIN = tuple(__builtins__ if isinstance(__builtins__, dict) else dir(__builtins__))


def files():
    return sorted(path for path in FOLDER.rglob("*") if "__pycache__" not in path.parts)


def trees():
    return [(path.name, ast.parse(path.read_text(encoding="utf-8"))) for path in files() if path.suffix == ".py"]


class Language(unittest.TestCase):
    def test_files(self):
        for path in files():
            self.assertTrue(path.is_dir() or re.fullmatch("[a-z0-9_]+[.]py", path.name), path)
            self.assertTrue(path.is_file() or (path / "__init__.py").exists(), path)

    def test_characters_and_sizes(self):
        for path in files():
            if path.is_dir():
                continue
            text = path.read_text(encoding="utf-8")
            self.assertTrue(all(sign == "\n" or " " <= sign <= "~" for sign in text), path)
            self.assertLessEqual(len(text.split("\n")), 399, path)
            self.assertLessEqual(max(len(row) for row in text.split("\n")), 120, path)
            for word in re.findall("[A-Za-z_]+", text):
                self.assertNotIn(word, BARRED_WORDS, path)
            self.assertIsNone(re.search("dataclass|overload|contextmanager", text), path)

    def test_imports(self):
        for name, tree in trees():
            for node in ast.walk(tree):
                self.assertNotIsInstance(node, ast.Import, name)
                if isinstance(node, ast.ImportFrom):
                    self.assertIn(node, tree.body, name)
                    self.assertRegex(node.module, "^salebids[.][a-z0-9_]+$")
                    self.assertEqual(node.level, 0)
                    self.assertNotIn("*", [alias.name for alias in node.names])

    def test_module_level(self):
        allowed = (ast.ImportFrom, ast.FunctionDef, ast.ClassDef, ast.Assign, ast.Expr)
        for name, tree in trees():
            for at, node in enumerate(tree.body):
                self.assertIsInstance(node, allowed, name)
                self.assertTrue(not isinstance(node, ast.Expr) or at == 0, name)

    def test_functions(self):
        for name, tree in trees():
            for node in ast.walk(tree):
                if isinstance(node, ast.FunctionDef):
                    self.assertLessEqual(node.end_lineno - node.lineno + 1, 40, node.name)
                    self.assertEqual(node.args.posonlyargs, [], node.name)

    def test_names(self):
        for name, tree in trees():
            for node in ast.walk(tree):
                if isinstance(node, ast.Name):
                    self.assertFalse(node.id.startswith("_"), (name, node.id))
                    if node.id in EVERY_BUILTIN:
                        self.assertIsInstance(node.ctx, ast.Load)
                        self.assertIn(node.id, BUILTINS, name)
                if isinstance(node, ast.arg):
                    self.assertNotIn(node.arg, EVERY_BUILTIN)
                if isinstance(node, ast.Attribute) and not node.attr.endswith("__"):
                    self.assertFalse(node.attr.startswith("_"), (name, node.attr))

    def test_statements_and_values(self):
        barred = (ast.Global, ast.AsyncFunctionDef, ast.Await, ast.Div, ast.MatMult, ast.GeneratorExp)
        for name, tree in trees():
            for node in ast.walk(tree):
                self.assertNotIsInstance(node, barred, name)
                if isinstance(node, ast.Constant):
                    self.assertNotIsInstance(node.value, float, name)
                    self.assertNotIn("%", str(node.value), name)
                if isinstance(node, ast.Compare) and any(isinstance(sign, (ast.Is, ast.IsNot)) for sign in node.ops):
                    self.assertIn(node.comparators[0].value, (None, True, False))
                if isinstance(node, ast.ExceptHandler):
                    self.assertIsNotNone(node.type, name)


if __name__ == "__main__":
    unittest.main()
