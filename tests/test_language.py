"""The package keeps to the small Python that it is written in."""

import ast
import builtins
import pathlib
import unittest

PACKAGE = pathlib.Path(__file__).resolve().parent.parent / "quietprobes"

# Each module imports only from modules ahead of it; the helpers of the package stand in between.
ORDER = [
    "errors", "checks", "things", "looks", "deeds", "states", "worlds", "rows", "blocks", "faults", "programs",
    "settings", "contents", "runs", "comparing", "joint", "verdicts", "tables", "sets", "turning", "desk",
]
BUILTINS = {
    "len", "range", "enumerate", "zip", "min", "max", "sum", "abs", "sorted", "reversed", "int", "str", "bool", "list",
    "tuple", "dict", "set", "isinstance", "ord", "repr", "any", "all", "divmod", "pow", "iter", "next", "map",
    "getattr", "hasattr", "setattr", "super", "property", "staticmethod", "classmethod", "NotImplemented",
    "Exception", "ValueError", "TypeError", "KeyError", "IndexError", "LookupError", "ZeroDivisionError",
    "RuntimeError", "NotImplementedError", "StopIteration",
}
METHODS = {
    "__init__", "__eq__", "__repr__", "__str__", "__len__", "__enter__", "__exit__", "__call__", "__iter__",
    "__contains__", "__getitem__", "__setitem__", "__bool__", "__add__", "__sub__", "__and__", "__or__", "__xor__",
    "__iadd__", "__isub__", "__iand__", "__ior__", "__ixor__",
}
FORBIDDEN = (ast.Global, ast.AsyncFunctionDef, ast.Await, ast.Import, ast.Div, ast.MatMult)


def modules():
    return {path.stem: path.read_text() for path in sorted(PACKAGE.glob("*.py"))}


def trees():
    return {name: ast.parse(text) for name, text in modules().items()}


def bound_names(tree):
    """All names that a module binds anywhere."""
    names = set()
    for node in ast.walk(tree):
        if isinstance(node, (ast.FunctionDef, ast.ClassDef)):
            names.add(node.name)
        if isinstance(node, ast.arg):
            names.add(node.arg)
        if isinstance(node, ast.Name) and isinstance(node.ctx, ast.Store):
            names.add(node.id)
        if isinstance(node, ast.ImportFrom):
            names.update(alias.asname or alias.name for alias in node.names)
    return names


class LanguageTest(unittest.TestCase):
    def test_the_folder_holds_modules_only(self):
        others = [path.name for path in PACKAGE.iterdir() if path.suffix != ".py" and path.name != "__pycache__"]
        self.assertEqual(others, [])
        self.assertEqual(set(modules()) - {"__init__"} - set(ORDER), set())

    def test_sizes_and_characters(self):
        for name, text in modules().items():
            lines = text.split("\n")
            with self.subTest(module=name):
                self.assertLessEqual(len(lines), 399)
                self.assertLessEqual(max(map(len, lines)), 120)
                self.assertTrue(all(char == "\n" or " " <= char <= "~" for char in text))

    def test_functions_are_small(self):
        for name, tree in trees().items():
            for node in ast.walk(tree):
                if isinstance(node, ast.FunctionDef):
                    self.assertLessEqual(node.end_lineno - node.lineno + 1, 40, (name, node.name))

    def test_imports_come_from_modules_ahead(self):
        for name, tree in trees().items():
            for node in tree.body:
                if isinstance(node, ast.ImportFrom):
                    folder, _, module = node.module.partition(".")
                    self.assertEqual((folder, node.level), ("quietprobes", 0))
                    self.assertLess(ORDER.index(module), ORDER.index(name), (name, module))
                    defined = [x.name for x in trees()[module].body if isinstance(x, (ast.FunctionDef, ast.ClassDef))]
                    self.assertTrue({alias.name for alias in node.names} <= set(defined), (name, module))

    def test_no_other_builtins_and_none_renamed(self):
        for name, tree in trees().items():
            bound = bound_names(tree)
            read = {node.id for node in ast.walk(tree) if isinstance(node, ast.Name)}
            self.assertEqual(read - bound - BUILTINS, set(), name)
            self.assertEqual(bound & set(dir(builtins)) - METHODS, set(), name)

    def test_no_forbidden_statements(self):
        for name, tree in trees().items():
            found = [node.lineno for node in ast.walk(tree) if isinstance(node, FORBIDDEN)]
            self.assertEqual(found, [], name)

    def test_double_underscore_methods(self):
        for name, tree in trees().items():
            for node in ast.walk(tree):
                if isinstance(node, ast.FunctionDef) and node.name.startswith("__"):
                    self.assertIn(node.name, METHODS, name)
