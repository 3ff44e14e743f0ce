"""The form of the code: where the interface is defined, and the rules that a script can see."""

import ast
import builtins
import os
import re
import tokenize
import unittest

PACKAGE = os.path.join(os.path.dirname(os.path.dirname(os.path.abspath(__file__))), "layoutline")

# By file: the functions, and by class the methods, each with its parameters behind the first one.
# Parameters behind a star are passed by name only.
FUNCTIONS = {
    "orders.py": {"merge": ["lists"], "shows_merge": ["lists", "paper"]},
    "finding.py": {
        "find": ["world", "number", "name"], "reader": ["world", "number", "name"], "names_of": ["world", "number"],
        "hidden": ["world", "number"], "could_meet": ["world", "numbers"],
    },
    "changes.py": {
        "set_value": ["world", "number", "name", "value"], "drop_value": ["world", "number", "name"],
        "set_bases": ["world", "number", "bases"], "spoilt_by": ["world", "number", "bases"],
    },
    "judges.py": {"shows_collision": ["world", "bases", "paper"], "shows_ring": ["world", "bases", "paper"]},
    "meetings.py": {"largest": ["world", "classes"], "base_orders": ["world", "classes"]},
    "runs.py": {"run": ["world", "objects", "steps"]},
}
CLASSES = {
    "layouts.py": {
        "Layout": {
            "__init__": ["fields", "has_room"], "fields": [], "has_room": [], "with_room": [], "offset_of": ["name"],
            "first_difference": ["other"], "__len__": [], "__getitem__": None, "__contains__": None, "__add__": None,
            "__le__": None, "__eq__": None, "__repr__": [],
        },
    },
    "worlds.py": {
        "World": {
            "__init__": [], "make_class": ["bases", "fields", "*", "roomy", "pairs"], "order": ["number"],
            "line": ["number"], "owner": ["number"], "layout": ["number"], "count": [], "living": ["number"],
            "bases": ["number"], "fields": ["number"], "below": ["number"], "values": ["number"],
            "declares_room": ["number"],
        },
    },
    "objects.py": {
        "Objects": {
            "__init__": ["world"], "new": ["number"], "class_of": ["item"], "drop": ["item"], "alive": [],
            "read": ["item", "name"], "write": ["item", "name", "value"], "erase": ["item", "name"],
            "cells": ["item"], "room": ["item"], "set_class": ["item", "number"], "twins": ["number"],
        },
    },
    "machines.py": {
        "Machine": {
            "__init__": ["objects"], "read": ["item", "name"], "write": ["item", "name", "value"],
            "erase": ["item", "name"], "told": ["spoilt"], "walks": [], "kept": [], "stale": [],
        },
    },
}

BUILTINS = [
    "len", "range", "enumerate", "zip", "min", "max", "sum", "abs", "sorted", "reversed", "int", "str", "bool", "list",
    "tuple", "dict", "set", "isinstance", "ord", "repr", "any", "all", "divmod", "ValueError", "TypeError", "KeyError",
    "IndexError", "LookupError", "NotImplemented",
]

BARRED_WORDS = [
    "type", "typing", "typing_extensions", "enum", "Enum", "IntEnum", "StrEnum", "Flag", "IntFlag", "Generic",
    "Protocol", "ABC", "ABCMeta", "namedtuple", "NamedTuple", "TypedDict", "TYPE_CHECKING", "abstractmethod",
    "register", "mro", "elements", "open", "input", "law", "version_info", "with_traceback", "add_note", "_wall",
]


def paths():
    return sorted(os.path.join(PACKAGE, name) for name in os.listdir(PACKAGE) if name != "__pycache__")


def text_of(path):
    with open(path, encoding="utf-8", newline="") as file:
        return file.read()


def tree_of(path):
    return ast.parse(text_of(path))


def nodes_of(path, kinds):
    return [node for node in ast.walk(tree_of(path)) if isinstance(node, kinds)]


def parameters(function):
    behind = [argument.arg for argument in function.args.kwonlyargs]
    return [argument.arg for argument in function.args.args] + (["*", *behind] if behind else [])


def defined_names(path):
    """Return the names of the functions, classes and constants that a file defines."""
    body = tree_of(path).body
    constants = [target.id for node in body if isinstance(node, ast.Assign) for target in node.targets]
    return constants + [node.name for node in body if isinstance(node, (ast.FunctionDef, ast.ClassDef))]


def calls_of(path, names):
    """Return the calls of the functions of these names, and of no methods."""
    calls = nodes_of(path, ast.Call)
    return [node for node in calls if isinstance(node.func, ast.Name) and node.func.id in names]


class Interface(unittest.TestCase):

    def test_functions_stand_in_their_files(self):
        for name, functions in FUNCTIONS.items():
            body = tree_of(os.path.join(PACKAGE, name)).body
            defined = {node.name: parameters(node) for node in body if isinstance(node, ast.FunctionDef)}
            for function, wanted in functions.items():
                self.assertEqual(defined[function], wanted)

    def test_methods_stand_in_their_classes(self):
        for name, classes in CLASSES.items():
            body = tree_of(os.path.join(PACKAGE, name)).body
            found = {node.name: node for node in body if isinstance(node, ast.ClassDef)}
            for kind, methods in classes.items():
                own = {node.name: parameters(node) for node in found[kind].body if isinstance(node, ast.FunctionDef)}
                for method, wanted in methods.items():
                    self.assertIn(method, own)
                    if wanted is not None:
                        self.assertEqual(own[method][1:], wanted)


class Rules(unittest.TestCase):

    def test_files_and_characters(self):
        for path in paths():
            self.assertRegex(os.path.basename(path), r"^[a-z_]+\.py$")
            self.assertRegex(text_of(path), r"^[ -~\n]*\Z")

    def test_sizes(self):
        for path in paths():
            lines = text_of(path).split("\n")
            self.assertLessEqual(len(lines), 399, path)
            self.assertLessEqual(max(map(len, lines)), 120, path)
            for node in nodes_of(path, ast.FunctionDef):
                self.assertLessEqual(node.end_lineno - node.lineno + 1, 40, node.name)

    def test_imports_come_from_the_very_file(self):
        for path in paths():
            self.assertEqual(nodes_of(path, ast.Import), [])
            for node in nodes_of(path, ast.ImportFrom):
                self.assertRegex(node.module, r"^layoutline\.[a-z]+$")
                defined = defined_names(os.path.join(PACKAGE, node.module.split(".")[1] + ".py"))
                for alias in node.names:
                    self.assertIn(alias.name, defined)
                    self.assertIsNone(alias.asname)

    def test_all_that_is_imported_or_private_is_used(self):
        for path in paths():
            read = [node.id for node in nodes_of(path, ast.Name) if isinstance(node.ctx, ast.Load)]
            imported = [alias.name for node in nodes_of(path, ast.ImportFrom) for alias in node.names]
            private = [node.name for node in tree_of(path).body if getattr(node, "name", "").startswith("_")]
            self.assertEqual([name for name in imported + private if name not in read], [], path)

    def test_module_level(self):
        kinds = (ast.Expr, ast.ImportFrom, ast.FunctionDef, ast.ClassDef, ast.Assign)
        for path in paths():
            for node in tree_of(path).body:
                self.assertIsInstance(node, kinds)
                if isinstance(node, ast.Expr):
                    self.assertIsInstance(node.value.value, str)

    def test_no_decorators_floats_or_divisions(self):
        for path in paths():
            for node in nodes_of(path, (ast.FunctionDef, ast.ClassDef)):
                self.assertEqual(node.decorator_list, [])
            self.assertEqual(nodes_of(path, (ast.Div, ast.Global, ast.AsyncFunctionDef, ast.Await)), [])
            for node in nodes_of(path, ast.Constant):
                self.assertNotIsInstance(node.value, (float, complex))

    def test_builtins(self):
        for path in paths():
            for node in nodes_of(path, ast.Name):
                # The examples of the README bind _ among the builtins.
                if node.id in dir(builtins) and node.id != "_":
                    self.assertIn(node.id, BUILTINS, path)
                    self.assertIsInstance(node.ctx, ast.Load, path)
            for node in nodes_of(path, ast.arg):
                self.assertNotIn(node.arg, dir(builtins), path)

    def test_no_name_stands_for_two_things(self):
        for path in paths():
            imported = [alias.name for node in nodes_of(path, ast.ImportFrom) for alias in node.names]
            classes = [node.name for node in nodes_of(path, ast.ClassDef)]
            taken = [*imported, *classes, *defined_names(path)]
            self.assertEqual(len(taken), len(set(taken)) + len(classes), path)
            for function in nodes_of(path, ast.FunctionDef):
                for node in ast.walk(function):
                    if isinstance(node, ast.arg):
                        self.assertNotIn(node.arg, taken, path)
                    if isinstance(node, ast.MatchAs):
                        self.assertNotIn(node.name, [*taken, *dir(builtins)], path)
                    if isinstance(node, ast.Name) and isinstance(node.ctx, ast.Store):
                        self.assertNotIn(node.id, taken, path)

    def test_methods_and_attributes_have_unlike_names(self):
        classes = [node for path in paths() for node in nodes_of(path, ast.ClassDef)]
        methods = [node.name for kind in classes for node in kind.body if isinstance(node, ast.FunctionDef)]
        used = [node for path in paths() for node in nodes_of(path, ast.Attribute)]
        stored = [node.attr for node in used if isinstance(node.ctx, ast.Store)]
        self.assertEqual(sorted(set(stored) & set(methods)), [])
        self.assertEqual([name for name in ("keys", "items", "add", "discard", "sort") if name in methods], [])
        known = [*stored, *methods, *dir([]), *dir({}), *dir(""), "add"]
        self.assertEqual([node.attr for node in used if node.attr not in known], [])

    def test_methods_that_layouts_bar(self):
        for path in paths():
            for node in nodes_of(path, ast.Attribute):
                self.assertNotIn(node.attr, ("sort", "keys", "values"), path)
            self.assertEqual(nodes_of(path, ast.GeneratorExp), [], path)

    def test_sorting_goes_over_plain_numbers_and_strings(self):
        for path in paths():
            for node in calls_of(path, ("sorted", "min", "max")):
                if [keyword.value.id for keyword in node.keywords if keyword.arg == "key"] == ["len"]:
                    continue
                plain = [node.args[0].elt] if isinstance(node.args[0], ast.ListComp) else node.args
                self.assertTrue(all(part.func.id in ("len", "int", "str") for part in plain), path)

    def test_is_stands_with_none_true_and_false(self):
        for path in paths():
            for node in nodes_of(path, ast.Compare):
                for sign, right in zip(node.ops, node.comparators):
                    if isinstance(sign, (ast.Is, ast.IsNot)):
                        self.assertIsInstance(right, ast.Constant)
                        self.assertIn(right.value, (None, True, False))

    def test_barred_words(self):
        for path in paths():
            with open(path, "rb") as file:
                tokens = [token for token in tokenize.tokenize(file.readline) if token.type != tokenize.COMMENT]
            words = [word for token in tokens for word in re.findall(r"\w+", token.string)]
            self.assertEqual([word for word in words if word in BARRED_WORDS], [], path)


if __name__ == "__main__":
    unittest.main()
