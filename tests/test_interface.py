"""The interface of what has landed, and the outer form of the package's files."""

import ast
import importlib
import inspect
import pathlib
import unittest

PACKAGE = pathlib.Path(__file__).resolve().parent.parent / "turndoors"

FUNCTIONS = {
    "turndoors.halls": (
        "validate_hall(value)", "ends_of(hall, door)", "doors_at(hall, room)", "glue(hall, one, other)",
    ),
    "turndoors.states": (
        "validate_state(hall, value)", "counts(hall, state)", "crowd(hall, state)", "room_of(state, walker)",
        "glue_state(state, one, other)",
    ),
    "turndoors.texts": (
        "format_hall(hall)", "parse_hall(text)", "format_state(state)", "parse_state(hall, text)",
    ),
    "turndoors.moves": (
        "can_pass(hall, state, walker, door)", "pass_door(hall, state, walker, door)", "run(hall, state, row)",
        "reverse(row)", "turn_door(hall, state, door)", "put_walker(hall, state, walker, room)",
        "remove_walker(state, walker)",
    ),
    "turndoors.histories": (
        "same_history(one, other)", "projections(row)", "least_row(row)", "rounds(row)", "merge(walkers, doors)",
        "is_ring(walkers, doors, value)",
    ),
    "turndoors.bands": (
        "reach(hall, state, walker)", "path(hall, state, walker, room)", "bands(hall, state)",
        "still_doors(hall, state)", "is_enclosure(hall, state, value)",
    ),
    "turndoors.connect": (
        "connect(hall, state, target)", "is_clash(hall, state, target, value)",
    ),
    "turndoors.meetings": (
        "bring(hall, state, walker, room)", "swap(hall, state, one, other)", "meet(hall, state, one, other)",
        "turn_ring(hall, state, doors)",
    ),
    "turndoors.reachable": (
        "count_states(hall, state)", "all_states(hall, state, *, most=5000)", "crowd_for(hall, state, faces)",
    ),
    "turndoors.crowding": (
        "most_in(hall, state, room)", "is_most(hall, state, room, value)",
    ),
    "turndoors.handturns": (
        "fewest_turns(hall, state, wanted)", "is_fewest(hall, state, wanted, value)",
    ),
    "turndoors.shortest": (
        "shortest_row(hall, state, target, *, most=600)", "is_shortest(hall, state, target, value, *, most=600)",
    ),
    "turndoors.observed": (
        "beginnings(hall, seen)",
    ),
}

CONSTANTS = {
    "turndoors.halls": {"ROOMS": 8, "DOORS": 12},
    "turndoors.states": {"WALKERS": 5},
    "turndoors.reachable": {"STATES": 5000},
    "turndoors.shortest": {"FEW": 600},
}

CLASSES = {
    "turndoors.errors": (
        "HallError", "InvalidHall", "InvalidState", "InvalidText", "Blocked", "NotRing", "Mismatch", "TooMany", "Full",
        "Unbalanced", "Rejected", "InvalidCommand", "UnknownRoom", "UnknownDoor", "UnknownWalker",
    ),
    "turndoors.keeper": ("Keeper",),
    "turndoors.desk": ("Desk",),
}

METHODS = {
    "turndoors.keeper.Keeper": (
        "__init__(self, hall, state)", "pass_door(self, walker, door)", "turn(self, door)", "put(self, walker, room)",
        "remove(self, walker)", "undo(self)", "several(self, changes, *, whole=True)", "log(self)", "state(self)",
        "hall(self)", "counts(self)", "trail(self)", "way_back(self)", "__len__(self)", "__eq__(self, other)",
        "__repr__(self)",
    ),
    "turndoors.desk.Desk": (
        "__init__(self)", "say(self, command)", "__len__(self)",
    ),
}


def files_with_trees():
    """Return the path and the tree of each file of the package."""
    return [(path, ast.parse(path.read_text(encoding="utf-8"))) for path in sorted(PACKAGE.rglob("*.py"))]


class InterfaceTest(unittest.TestCase):

    def test_functions(self):
        for module, signatures in FUNCTIONS.items():
            for signature in signatures:
                name = signature.partition("(")[0]
                function = getattr(importlib.import_module(module), name)
                self.assertEqual(name + str(inspect.signature(function)), signature)
                self.assertEqual(function.__module__, module)

    def test_classes(self):
        for module, names in CLASSES.items():
            for name in names:
                found = getattr(importlib.import_module(module), name)
                self.assertTrue(inspect.isclass(found))
                self.assertEqual(found.__module__, module)

    def test_methods(self):
        for path, signatures in METHODS.items():
            module, _, name = path.rpartition(".")
            own = vars(getattr(importlib.import_module(module), name))
            for signature in signatures:
                method = signature.partition("(")[0]
                self.assertEqual(method + str(inspect.signature(own[method])), signature)
            # What else a class has is its own business, and its name says so.
            others = {member for member in own if inspect.isfunction(own[member]) and not member.startswith("_")}
            self.assertLessEqual(others, {signature.partition("(")[0] for signature in signatures})

    def test_constants(self):
        for module, values in CONSTANTS.items():
            for name, value in values.items():
                found = getattr(importlib.import_module(module), name)
                self.assertEqual(repr(found), repr(value))

    def test_init_holds_only_a_docstring(self):
        tree = ast.parse((PACKAGE / "__init__.py").read_text(encoding="utf-8"))
        self.assertEqual(len(tree.body), 1)
        self.assertIsNotNone(ast.get_docstring(tree))


class OuterFormTest(unittest.TestCase):

    def test_only_python_files(self):
        others = [
            path.name for path in PACKAGE.rglob("*")
            if path.suffix != ".py" and "__pycache__" not in path.parts
        ]
        self.assertEqual(others, [])

    def test_characters_and_sizes(self):
        for path, tree in files_with_trees():
            text = path.read_text(encoding="utf-8")
            self.assertTrue(all(" " <= sign <= "~" or sign == "\n" for sign in text), path)
            lines = text.splitlines()
            self.assertLessEqual(len(lines), 399, path)
            self.assertLessEqual(max(len(line) for line in lines), 120, path)
            for node in ast.walk(tree):
                if isinstance(node, ast.FunctionDef):
                    self.assertLessEqual(node.end_lineno - node.lineno + 1, 40, (path, node.name))

    def test_imports(self):
        for path, tree in files_with_trees():
            for node in ast.walk(tree):
                self.assertNotIsInstance(node, ast.Import, path)
                if isinstance(node, ast.ImportFrom) and node.module != "math":
                    self.assertEqual(node.module.partition(".")[0], "turndoors", path)
                    for alias in node.names:
                        found = getattr(importlib.import_module(node.module), alias.name)
                        self.assertEqual(getattr(found, "__module__", node.module), node.module, path)

    def test_no_generator_expressions_and_no_decorators(self):
        # Keeper has an __eq__, and beside such a class LANGUAGE.md asks for lists in all, any and sum.
        for path, tree in files_with_trees():
            for node in ast.walk(tree):
                self.assertNotIsInstance(node, ast.GeneratorExp, path)
                self.assertEqual(getattr(node, "decorator_list", []), [], path)


if __name__ == "__main__":
    unittest.main()
