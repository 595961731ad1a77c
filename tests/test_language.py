"""Some rules of the language in which the package is written, as far as they are easily seen."""

import ast
import pathlib
import re
import unittest

FOLDER = pathlib.Path(__file__).resolve().parent.parent / "salebids"
BARRED_WORDS = (
    "type", "typing", "typing_extensions", "enum", "Enum", "IntEnum", "StrEnum", "Flag", "IntFlag", "Generic",
    "Protocol", "ABC", "ABCMeta", "namedtuple", "NamedTuple", "TypedDict", "TYPE_CHECKING", "abstractmethod",
)
BUILTINS = (
    "len", "range", "enumerate", "zip", "min", "max", "sum", "abs", "sorted", "reversed", "int", "str", "bool", "list",
    "tuple", "dict", "set", "isinstance", "ord", "repr", "any", "all", "divmod", "ValueError", "TypeError", "KeyError",
    "IndexError", "LookupError", "ArithmeticError", "property", "staticmethod", "classmethod", "iter", "next", "super",
)
BUILTIN_METHODS = (
    "append", "clear", "copy", "count", "endswith", "extend", "find", "get", "index", "insert", "isalnum", "isalpha",
    "isdigit", "items", "join", "keys", "lower", "partition", "pop", "remove", "replace", "rpartition", "setdefault",
    "split", "splitlines", "startswith", "strip", "update", "upper", "values",
)
EVERY_BUILTIN = tuple(__builtins__ if isinstance(__builtins__, dict) else dir(__builtins__))


def files():
    return sorted(path for path in FOLDER.rglob("*") if "__pycache__" not in path.parts)


def trees():
    return [(path.name, ast.parse(path.read_text(encoding="utf-8"))) for path in files() if path.suffix == ".py"]


class Language(unittest.TestCase):
    def test_files(self):
        for path in files():
            self.assertTrue(path.is_dir() or re.fullmatch("[a-z0-9_]+[.]py", path.name), path)
            self.assertTrue(path.is_file() or (path / "__init__.py").exists(), path)

    def test_characters_and_sizes(self):
        for path in files():
            if path.is_dir():
                continue
            text = path.read_text(encoding="utf-8")
            self.assertTrue(all(sign == "\n" or " " <= sign <= "~" for sign in text), path)
            self.assertLessEqual(len(text.split("\n")), 399, path)
            self.assertLessEqual(max(len(row) for row in text.split("\n")), 120, path)
            for word in re.findall("[A-Za-z_]+", text):
                self.assertNotIn(word, BARRED_WORDS, path)
            self.assertIsNone(re.search("dataclass|overload|contextmanager", text), path)

    def test_imports(self):
        for name, tree in trees():
            for node in ast.walk(tree):
                self.assertNotIsInstance(node, ast.Import, name)
                if isinstance(node, ast.ImportFrom):
                    self.assertIn(node, tree.body, name)
                    self.assertRegex(node.module, "^salebids[.][a-z0-9_]+$")
                    self.assertEqual(node.level, 0)
                    self.assertNotIn("*", [alias.name for alias in node.names])

    def test_module_level(self):
        allowed = (ast.ImportFrom, ast.FunctionDef, ast.ClassDef, ast.Assign, ast.Expr)
        for name, tree in trees():
            for at, node in enumerate(tree.body):
                self.assertIsInstance(node, allowed, name)
                self.assertTrue(not isinstance(node, ast.Expr) or at == 0, name)

    def test_functions(self):
        for name, tree in trees():
            for node in ast.walk(tree):
                if isinstance(node, ast.FunctionDef):
                    self.assertLessEqual(node.end_lineno - node.lineno + 1, 40, node.name)
                    self.assertEqual(node.args.posonlyargs, [], node.name)

    def test_names(self):
        for name, tree in trees():
            for node in ast.walk(tree):
                if isinstance(node, ast.Name):
                    self.assertFalse(node.id.startswith("_"), (name, node.id))
                    if node.id in EVERY_BUILTIN:
                        self.assertIsInstance(node.ctx, ast.Load)
                        self.assertIn(node.id, BUILTINS, name)
                if isinstance(node, ast.arg):
                    self.assertNotIn(node.arg, EVERY_BUILTIN)
                if isinstance(node, ast.Attribute) and not node.attr.endswith("__"):
                    self.assertFalse(node.attr.startswith("_"), (name, node.attr))

    def test_statements_and_values(self):
        barred = (ast.Global, ast.AsyncFunctionDef, ast.Await, ast.Div, ast.MatMult, ast.GeneratorExp)
        for name, tree in trees():
            for node in ast.walk(tree):
                self.assertNotIsInstance(node, barred, name)
                if isinstance(node, ast.Constant):
                    self.assertNotIsInstance(node.value, float, name)
                    self.assertNotIn("%", str(node.value), name)
                if isinstance(node, ast.Compare) and any(isinstance(sign, (ast.Is, ast.IsNot)) for sign in node.ops):
                    self.assertIn(node.comparators[0].value, (None, True, False))
                if isinstance(node, ast.ExceptHandler):
                    self.assertIsNotNone(node.type, name)

    def test_imported_names_are_defined_in_that_very_file(self):
        defined = {name[:-3]: bound_at_top(tree) for name, tree in trees()}
        for name, tree in trees():
            for node in tree.body:
                if isinstance(node, ast.ImportFrom):
                    for alias in node.names:
                        self.assertIsNone(alias.asname, name)
                        self.assertIn(alias.name, defined[node.module.split(".")[1]], name)

    def test_no_files_import_from_each_other(self):
        needs = {}
        for name, tree in trees():
            needs[name[:-3]] = {node.module.split(".")[1] for node in tree.body if isinstance(node, ast.ImportFrom)}
        while needs:
            free = [name for name in needs if not needs[name] & set(needs)]
            self.assertTrue(free, needs)
            for name in free:
                del needs[name]

    def test_each_imported_name_is_used(self):
        for name, tree in trees():
            used = {node.id for node in ast.walk(tree) if isinstance(node, ast.Name)}
            imported = {alias.name for node in tree.body if isinstance(node, ast.ImportFrom) for alias in node.names}
            self.assertEqual(imported - used, set(), name)

    def test_one_binding_for_each_name(self):
        for name, tree in trees():
            imported = [alias.name for node in tree.body if isinstance(node, ast.ImportFrom) for alias in node.names]
            bound = imported + bound_at_top(tree)
            self.assertEqual(len(bound), len(set(bound)), name)
            classes = [node.name for node in tree.body if isinstance(node, ast.ClassDef)]
            for node in ast.walk(tree):
                if isinstance(node, ast.Name) and isinstance(node.ctx, ast.Store):
                    self.assertNotIn(node.id, imported + classes, name)
                if isinstance(node, ast.arg):
                    self.assertNotIn(node.arg, imported + classes, name)

    def test_helpers_are_defined_once(self):
        found = [node.name for name, tree in trees() for node in tree.body if isinstance(node, ast.FunctionDef)]
        self.assertEqual(len(found), len(set(found)))

    def test_methods_and_attributes(self):
        methods, stored, read = set(), set(), set()
        for name, tree in trees():
            for node in ast.walk(tree):
                if isinstance(node, ast.ClassDef):
                    methods |= {inner.name for inner in node.body if isinstance(inner, ast.FunctionDef)}
                if isinstance(node, ast.Attribute):
                    (stored if isinstance(node.ctx, ast.Store) else read).add(node.attr)
        self.assertEqual(methods & stored, set())
        self.assertEqual({attr for attr in read if attr not in methods | stored | set(BUILTIN_METHODS)}, {"__init__"} & read)

    def test_exits(self):
        """The rows of `__exit__` are only tests of its `kind`, and attributes that are assigned attributes."""
        found = [node for name, tree in trees() for node in ast.walk(tree)
                 if isinstance(node, ast.FunctionDef) and node.name == "__exit__"]
        for function in found:
            self.assertEqual([passed.arg for passed in function.args.args], ["self", "kind", "value", "trace"])
            rows = list(function.body)
            while rows:
                row = rows.pop()
                if isinstance(row, ast.If):
                    self.assertIn(ast.unparse(row.test), ("kind is None", "kind is not None"))
                    rows += row.body + row.orelse
                else:
                    self.assertIsInstance(row, ast.Assign)
                    self.assertEqual([part.__class__ for part in (*row.targets, row.value)], [ast.Attribute] * 2)

    def test_operators(self):
        """Operators and properties assign nothing but local names, and call no method that modifies something."""
        allowed = ("__init__", "__enter__", "__exit__", "__setitem__")
        modifying = ("append", "extend", "pop", "remove", "insert", "clear", "update", "setdefault", "sort")
        for name, tree in trees():
            for node in ast.walk(tree):
                if not isinstance(node, ast.FunctionDef) or node.name in allowed:
                    continue
                if not node.name.startswith("__") and not any(ast.unparse(over) == "property" for over in node.decorator_list):
                    continue
                for inner in ast.walk(node):
                    if isinstance(inner, (ast.Attribute, ast.Subscript)):
                        self.assertIsInstance(inner.ctx, ast.Load, (name, node.name))
                    if isinstance(inner, ast.Attribute):
                        self.assertNotIn(inner.attr, modifying, (name, node.name))

    def test_a_class_with_items_is_not_iterated_over(self):
        for name, tree in trees():
            for node in ast.walk(tree):
                if isinstance(node, ast.ClassDef):
                    methods = [inner.name for inner in node.body if isinstance(inner, ast.FunctionDef)]
                    self.assertEqual("__getitem__" in methods, "__iter__" in methods, node.name)

    def test_calls(self):
        for name, tree in trees():
            for node in ast.walk(tree):
                if isinstance(node, ast.Call) and isinstance(node.func, ast.Name) and node.func.id in BUILTINS:
                    named = [word.arg for word in node.keywords]
                    self.assertTrue(all(word in ("key", "reverse", "default", "start") for word in named), name)
                    self.assertFalse(any(isinstance(passed, ast.Starred) for passed in node.args), name)
                if isinstance(node, ast.Call) and isinstance(node.func, ast.Attribute):
                    self.assertTrue(node.func.attr not in BUILTIN_METHODS or not node.keywords, name)
                self.assertNotIsInstance(node, (ast.Yield, ast.YieldFrom, ast.NamedExpr, ast.AnnAssign), name)

    def test_sets_stand_in_sorted_alone(self):
        for name, tree in trees():
            inside = [node.args[0] for node in ast.walk(tree) if isinstance(node, ast.Call)
                      and isinstance(node.func, ast.Name) and node.func.id == "sorted"]
            for node in ast.walk(tree):
                self.assertNotIsInstance(node, (ast.Set, ast.SetComp), name)
                if isinstance(node, ast.Call) and isinstance(node.func, ast.Name) and node.func.id == "set":
                    self.assertTrue(any(node in ast.walk(place) for place in inside), name)

    def test_loops_do_not_modify_what_they_iterate_over(self):
        modifying = ("append", "extend", "pop", "remove", "insert", "clear", "update", "setdefault")
        for name, tree in trees():
            for loop in [node for node in ast.walk(tree) if isinstance(node, ast.For)]:
                over = {node.id for node in ast.walk(loop.iter) if isinstance(node, ast.Name)}
                for node in [inner for row in loop.body for inner in ast.walk(row)]:
                    if isinstance(node, ast.Attribute) and node.attr in modifying and isinstance(node.value, ast.Name):
                        self.assertNotIn(node.value.id, over, (name, loop.lineno))
                    if isinstance(node, ast.Subscript) and isinstance(node.ctx, ast.Store):
                        names = {inner.id for inner in ast.walk(node.value) if isinstance(inner, ast.Name)}
                        self.assertFalse(names & over, (name, loop.lineno))


def bound_at_top(tree):
    """The names that functions, classes and assignments of a file bind."""
    found = [node.name for node in tree.body if isinstance(node, (ast.FunctionDef, ast.ClassDef))]
    return found + [node.targets[0].id for node in tree.body if isinstance(node, ast.Assign)]


if __name__ == "__main__":
    unittest.main()
