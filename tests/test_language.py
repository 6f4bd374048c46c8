"""The package keeps to the small Python that it is written in."""

import ast
import builtins
import pathlib
import unittest

PACKAGE = pathlib.Path(__file__).resolve().parent.parent / "quietprobes"

# Each module imports only from modules ahead of it; the helpers of the package stand in between.
ORDER = [
    "errors", "checks", "things", "looks", "deeds", "states", "worlds", "rows", "blocks", "faults", "programs",
    "settings", "contents", "nesting", "passing", "runs", "trails", "comparing", "choices", "serials", "twins", "joint",
    "reaching", "verdicts", "tables", "sets", "turning", "desk",
]
BUILTINS = {
    "len", "range", "enumerate", "zip", "min", "max", "sum", "abs", "sorted", "reversed", "int", "str", "bool", "list",
    "tuple", "dict", "set", "isinstance", "ord", "repr", "any", "all", "divmod", "pow", "iter", "next", "map",
    "getattr", "hasattr", "setattr", "super", "property", "staticmethod", "classmethod", "NotImplemented",
    "Exception", "ValueError", "TypeError", "KeyError", "IndexError", "LookupError", "ZeroDivisionError",
    "RuntimeError", "NotImplementedError", "StopIteration",
}
METHODS = {
    "__init__", "__eq__", "__repr__", "__str__", "__len__", "__enter__", "__exit__", "__iter__",
    "__call__", "__contains__", "__getitem__", "__setitem__", "__bool__", "__add__", "__sub__", "__and__", "__or__", "__xor__",
    "__iadd__", "__isub__", "__iand__", "__ior__", "__ixor__",
}
# Generator expressions are allowed in few places only, and none where a class compares.
FORBIDDEN = (ast.Global, ast.AsyncFunctionDef, ast.Await, ast.Import, ast.Div, ast.MatMult, ast.GeneratorExp, ast.SetComp)
# Words that stand nowhere but in comments and docstrings.
WORDS = {
    "type", "typing", "enum", "Enum", "Flag", "Generic", "Protocol", "ABC", "namedtuple", "NamedTuple", "register", "mro",
    "elements", "open", "input", "law",
}


def modules():
    return {path.stem: path.read_text() for path in sorted(PACKAGE.glob("*.py"))}


def trees():
    return {name: ast.parse(text) for name, text in modules().items()}


def bound_names(tree):
    """All names that a module binds anywhere."""
    names = set()
    for node in ast.walk(tree):
        if isinstance(node, (ast.FunctionDef, ast.ClassDef)):
            names.add(node.name)
        if isinstance(node, ast.arg):
            names.add(node.arg)
        if isinstance(node, ast.Name) and isinstance(node.ctx, ast.Store):
            names.add(node.id)
        if isinstance(node, ast.ImportFrom):
            names.update(alias.asname or alias.name for alias in node.names)
    return names


def defined_names(tree):
    """The names that a module binds by itself at its top."""
    names = {node.name for node in tree.body if isinstance(node, (ast.FunctionDef, ast.ClassDef))}
    return names | {target.id for node in tree.body if isinstance(node, ast.Assign) for target in node.targets}


def inner_names(tree):
    """The parameters and local variables of all functions of a module."""
    names = set()
    for function in ast.walk(tree):
        if isinstance(function, ast.FunctionDef):
            names |= {node.arg for node in ast.walk(function) if isinstance(node, ast.arg)}
            names |= {node.id for node in ast.walk(function) if isinstance(node, ast.Name) and isinstance(node.ctx, ast.Store)}
    return names


def methods_and_attributes():
    """For each name of a method in the package its decorators, and all names of attributes that are assigned."""
    methods, attributes = {}, set()
    for tree in trees().values():
        for node in ast.walk(tree):
            if isinstance(node, ast.ClassDef):
                for method in node.body:
                    if isinstance(method, ast.FunctionDef):
                        methods.setdefault(method.name, []).extend(ast.unparse(each) for each in method.decorator_list)
            if isinstance(node, ast.Attribute) and isinstance(node.ctx, ast.Store):
                attributes.add(node.attr)
    return methods, attributes


class LanguageTest(unittest.TestCase):
    def test_the_folder_holds_modules_only(self):
        others = [path.name for path in PACKAGE.iterdir() if path.suffix != ".py" and path.name != "__pycache__"]
        self.assertEqual(others, [])
        self.assertEqual(set(modules()) - {"__init__"} - set(ORDER), set())

    def test_sizes_and_characters(self):
        for name, text in modules().items():
            lines = text.split("\n")
            with self.subTest(module=name):
                self.assertLessEqual(len(lines), 399)
                self.assertLessEqual(max(map(len, lines)), 120)
                self.assertTrue(all(char == "\n" or " " <= char <= "~" for char in text))

    def test_functions_are_small(self):
        for name, tree in trees().items():
            for node in ast.walk(tree):
                if isinstance(node, ast.FunctionDef):
                    self.assertLessEqual(node.end_lineno - node.lineno + 1, 40, (name, node.name))

    def test_imports_come_from_modules_ahead(self):
        for name, tree in trees().items():
            for node in tree.body:
                if isinstance(node, ast.ImportFrom):
                    folder, _, module = node.module.partition(".")
                    self.assertEqual((folder, node.level), ("quietprobes", 0))
                    self.assertLess(ORDER.index(module), ORDER.index(name), (name, module))
                    self.assertTrue({alias.name for alias in node.names} <= defined_names(trees()[module]), (name, module))

    def test_no_other_builtins_and_none_renamed(self):
        for name, tree in trees().items():
            bound = bound_names(tree)
            read = {node.id for node in ast.walk(tree) if isinstance(node, ast.Name)}
            self.assertEqual(read - bound - BUILTINS, set(), name)
            self.assertEqual(bound & set(dir(builtins)) - METHODS, set(), name)

    def test_no_forbidden_statements(self):
        for name, tree in trees().items():
            found = [node.lineno for node in ast.walk(tree) if isinstance(node, FORBIDDEN)]
            self.assertEqual(found, [], name)

    def test_double_underscore_methods(self):
        for name, tree in trees().items():
            for node in ast.walk(tree):
                if isinstance(node, ast.FunctionDef) and node.name.startswith("__"):
                    self.assertIn(node.name, METHODS, name)

    def test_local_names_are_no_imports_and_no_classes(self):
        for name, tree in trees().items():
            taken = {alias.name for node in tree.body if isinstance(node, ast.ImportFrom) for alias in node.names}
            taken |= {node.name for node in tree.body if isinstance(node, (ast.ClassDef, ast.FunctionDef))}
            self.assertEqual(taken & inner_names(tree), set(), name)

    def test_no_name_is_a_method_and_an_attribute(self):
        methods, attributes = methods_and_attributes()
        self.assertEqual(set(methods) & attributes, set())

    def test_words(self):
        for name, tree in trees().items():
            names = {node.id for node in ast.walk(tree) if isinstance(node, ast.Name)}
            names |= {node.attr for node in ast.walk(tree) if isinstance(node, ast.Attribute)}
            names |= {node.arg for node in ast.walk(tree) if isinstance(node, (ast.arg, ast.keyword))}
            texts = [node.value for node in ast.walk(tree) if isinstance(node, ast.Constant) and isinstance(node.value, str)]
            docstrings = [node.body[0].value.value for node in ast.walk(tree)
                          if isinstance(node, (ast.Module, ast.FunctionDef, ast.ClassDef)) and ast.get_docstring(node)]
            for text in texts:
                if text not in docstrings:
                    names.update(text.split())
            self.assertEqual(names & WORDS, set(), name)

    def test_is_stands_beside_none_and_truth_only(self):
        for name, tree in trees().items():
            for node in ast.walk(tree):
                if isinstance(node, ast.Compare) and any(isinstance(sign, (ast.Is, ast.IsNot)) for sign in node.ops):
                    self.assertTrue(all(isinstance(side, ast.Constant) for side in node.comparators), (name, node.lineno))

    def test_constants_are_literals(self):
        for name, tree in trees().items():
            functions = {node.name for node in tree.body if isinstance(node, ast.FunctionDef)}
            for node in tree.body:
                if isinstance(node, ast.Assign):
                    read = {part.id for part in ast.walk(node.value) if isinstance(part, ast.Name)}
                    self.assertEqual(read - functions, set(), name)
                    calls = [part for part in ast.walk(node.value) if isinstance(part, (ast.Call, ast.Attribute))]
                    self.assertEqual(calls, [], name)
