"""Rules of LANGUAGE.md that can be seen in the code of the package without running it."""

import ast
import builtins
import re
import unittest
import warnings

from tests.test_interface import PACKAGE, files_with_trees

# L8, without those that the package has no use for.
BUILTINS = {
    "len", "range", "enumerate", "zip", "min", "max", "sum", "abs", "sorted", "reversed", "int", "str", "bool", "list",
    "tuple", "dict", "set", "isinstance", "any", "all", "ValueError", "KeyError",
}

# L25.
METHODS = {
    "append", "clear", "copy", "count", "endswith", "extend", "find", "get", "index", "insert", "isalnum", "isalpha",
    "isdigit", "islower", "isspace", "isupper", "items", "join", "keys", "ljust", "lower", "lstrip", "partition", "pop",
    "remove", "replace", "reverse", "rfind", "rjust", "rpartition", "rsplit", "rstrip", "setdefault", "split",
    "splitlines", "startswith", "strip", "update", "upper", "values", "zfill", "bit_length",
}

# L17.
WORDS = {
    "register", "mro", "elements", "open", "input", "law", "version_info", "with_traceback", "add_note", "type", "typing",
    "enum", "Enum", "Flag", "Generic", "Protocol", "ABC", "namedtuple", "abstractmethod", "dataclass", "overload",
    "exec", "eval", "exit", "id", "dir", "vars", "globals", "locals", "super", "getattr", "setattr", "hasattr", "help",
}

# L5 and L6.
SPECIAL = {"__init__", "__eq__", "__repr__", "__len__"}
NODES_NOT_USED = (
    ast.AsyncFunctionDef, ast.Global, ast.Nonlocal, ast.Yield, ast.YieldFrom, ast.Await, ast.GeneratorExp, ast.Div,
    ast.AnnAssign, ast.NamedExpr, ast.With, ast.Match, ast.Import, ast.SetComp,
)


def functions_of(tree):
    return [node for node in ast.walk(tree) if isinstance(node, (ast.FunctionDef, ast.Lambda))]


def bound_names(tree):
    """Return all names that are parameters or are assigned anywhere inside functions."""
    found = set()
    for node in functions_of(tree):
        places = node.args
        found.update(place.arg for place in [*places.args, *places.kwonlyargs, *places.posonlyargs])
        for inner in ast.walk(node):
            if isinstance(inner, ast.Name) and isinstance(inner.ctx, ast.Store):
                found.add(inner.id)
    return found


def top_names(tree):
    """Return the names that a file binds at module level, in their order."""
    found = []
    for node in tree.body:
        if isinstance(node, (ast.FunctionDef, ast.ClassDef)):
            found.append(node.name)
        elif isinstance(node, ast.ImportFrom):
            found.extend(alias.name for alias in node.names)
        elif isinstance(node, ast.Assign):
            found.extend(target.id for target in node.targets)
    return found


class LanguageTest(unittest.TestCase):

    def test_no_warnings(self):
        with warnings.catch_warnings():
            warnings.simplefilter("error")
            for path in PACKAGE.rglob("*.py"):
                compile(path.read_text(encoding="utf-8"), str(path), "exec")

    def test_kinds_of_statements_and_expressions(self):
        for path, tree in files_with_trees():
            for node in ast.walk(tree):
                self.assertNotIsInstance(node, NODES_NOT_USED, (path, getattr(node, "lineno", 0)))
                if isinstance(node, ast.Constant):
                    self.assertNotIsInstance(node.value, (float, complex), path)
                if isinstance(node, ast.ImportFrom):
                    self.assertEqual(node.level, 0)
                    self.assertTrue(all(alias.asname is None and alias.name != "*" for alias in node.names), path)
                if isinstance(node, ast.arg):
                    self.assertIsNone(node.annotation, path)

    def test_module_level(self):
        for path, tree in files_with_trees():
            for node in tree.body:
                if isinstance(node, ast.Expr):
                    self.assertIs(node, tree.body[0], path)
                    self.assertIsNotNone(ast.get_docstring(tree), path)
                else:
                    self.assertIsInstance(node, (ast.ImportFrom, ast.FunctionDef, ast.ClassDef, ast.Assign), path)
            names = top_names(tree)
            self.assertEqual(len(names), len(set(names)), path)

    def test_builtins(self):
        for path, tree in files_with_trees():
            own = bound_names(tree) | set(top_names(tree))
            self.assertEqual(own & set(dir(builtins)), set(), path)
            for node in ast.walk(tree):
                if isinstance(node, ast.Name) and node.id not in own:
                    self.assertIn(node.id, BUILTINS, path)

    def test_local_names(self):
        for path, tree in files_with_trees():
            imports = {alias.name for node in tree.body if isinstance(node, ast.ImportFrom) for alias in node.names}
            classes = {node.name for node in tree.body if isinstance(node, ast.ClassDef)}
            self.assertEqual(bound_names(tree) & (imports | classes | set(top_names(tree))), set(), path)
            for node in ast.walk(tree):
                if isinstance(node, ast.Name) and isinstance(node.ctx, ast.Load):
                    self.assertNotEqual(node.id, "_", (path, node.lineno))

    def test_methods(self):
        own = set()
        for _, tree in files_with_trees():
            for node in ast.walk(tree):
                if isinstance(node, ast.ClassDef):
                    own.update(part.name for part in node.body if isinstance(part, ast.FunctionDef))
        for path, tree in files_with_trees():
            for node in ast.walk(tree):
                if isinstance(node, ast.FunctionDef) and node.name.startswith("__"):
                    self.assertIn(node.name, SPECIAL, path)
                if isinstance(node, ast.Call) and isinstance(node.func, ast.Attribute):
                    self.assertIn(node.func.attr, METHODS | own, (path, node.lineno))
                    if node.func.attr in METHODS:
                        self.assertEqual(node.keywords, [], (path, node.lineno))

    def test_attributes_and_methods_have_different_names(self):
        for path, tree in files_with_trees():
            for node in ast.walk(tree):
                if isinstance(node, ast.ClassDef):
                    methods = [part.name for part in node.body if isinstance(part, ast.FunctionDef)]
                    attributes = {
                        inner.attr for inner in ast.walk(node)
                        if isinstance(inner, ast.Attribute) and isinstance(inner.ctx, ast.Store)
                    }
                    self.assertEqual(len(methods), len(set(methods)), path)
                    self.assertEqual(attributes & set(methods), set(), path)

    def test_words(self):
        for path, tree in files_with_trees():
            for node in ast.walk(tree):
                names = [getattr(node, field, None) for field in ("id", "attr", "arg", "name")]
                for name in names:
                    self.assertNotIn(name, WORDS, path)
                    if isinstance(name, str):
                        self.assertRegex(name, r"\A(_?[A-Za-z][A-Za-z0-9_]*|_|__[a-z]+__)\Z", path)
                        self.assertFalse(name.startswith(("_wall", "_pe_", "_dcw_", "_law_", "_sre")), path)

    def test_strings(self):
        for path, tree in files_with_trees():
            self.assertNotIn("%", path.read_text(encoding="utf-8"), path)
            for node in ast.walk(tree):
                if isinstance(node, ast.Constant) and isinstance(node.value, str):
                    self.assertNotRegex(node.value, r"__|\._", path)
            self.assertEqual(re.findall(r"\\[^nt\\\"']", path.read_text(encoding="utf-8")), [], path)

    def test_identity(self):
        for path, tree in files_with_trees():
            for node in ast.walk(tree):
                if isinstance(node, ast.Compare):
                    for operator, right in zip(node.ops, node.comparators):
                        if isinstance(operator, (ast.Is, ast.IsNot)):
                            self.assertIsInstance(right, ast.Constant, path)
                            self.assertIn(right.value, (None, True, False), path)

    def test_sets_are_only_measured(self):
        for path, tree in files_with_trees():
            inside = set()
            for node in ast.walk(tree):
                if isinstance(node, ast.Call) and isinstance(node.func, ast.Name) and node.func.id == "len":
                    inside.update(id(argument) for argument in node.args)
                self.assertNotIsInstance(node, ast.Set, path)
            for node in ast.walk(tree):
                if isinstance(node, ast.Call) and isinstance(node.func, ast.Name) and node.func.id == "set":
                    self.assertIn(id(node), inside, (path, node.lineno))

    def test_errors(self):
        for path, tree in files_with_trees():
            for node in ast.walk(tree):
                if isinstance(node, ast.Raise):
                    self.assertTrue(node.exc is None or isinstance(node.exc, ast.Call), path)
                    self.assertIsInstance(node.exc.func, ast.Name, path)
                if isinstance(node, ast.ExceptHandler):
                    caught = node.type.elts if isinstance(node.type, ast.Tuple) else [node.type]
                    for name in caught:
                        self.assertNotIn(name.id, set(dir(builtins)), path)

    def test_no_two_files_import_from_each_other(self):
        imports = {}
        for path, tree in files_with_trees():
            modules = [node.module for node in tree.body if isinstance(node, ast.ImportFrom)]
            imports[f"turndoors.{path.stem}"] = {module for module in modules if module.startswith("turndoors")}
        while imports:
            free = {name for name, needed in imports.items() if not needed & set(imports)}
            self.assertNotEqual(free, set(), imports)
            imports = {name: needed for name, needed in imports.items() if name not in free}

    def test_nothing_is_imported_in_vain(self):
        for path, tree in files_with_trees():
            read = {node.id for node in ast.walk(tree) if isinstance(node, ast.Name)}
            for node in tree.body:
                if isinstance(node, ast.ImportFrom):
                    for alias in node.names:
                        self.assertIn(alias.name, read, path)


if __name__ == "__main__":
    unittest.main()
