"""The interface: names, files and arguments, and what the package may import."""

import ast
import importlib
import inspect
import pathlib
import unittest

PACKAGE = pathlib.Path(__file__).resolve().parent.parent / "roundwaves"

FUNCTIONS = {
    ("chains", "is_chain"): ["value"],
    ("chains", "value"): ["chain", "number"],
    ("texts", "format_chain"): ["chain"],
    ("texts", "parse_chain"): ["text"],
    ("forms", "form"): ["chain"],
    ("forms", "count_jumps"): ["chain"],
    ("forms", "rises"): ["chain"],
    ("forms", "keeps"): ["chain"],
    ("likeness", "same"): ["chain", "other"],
    ("likeness", "parting"): ["chain", "other"],
    ("likeness", "unlike_share"): ["chain", "other"],
    ("likeness", "greatest_gap"): ["chain", "other"],
    ("likeness", "needless"): ["chain"],
    ("likeness", "exchangeable"): ["chain"],
    ("likeness", "joined"): ["chain", "other"],
    ("likeness", "left_out"): ["chain", "at"],
    ("backs", "sources"): ["chain", "number"],
    ("backs", "is_given"): ["chain", "number"],
}

DESK_METHODS = {
    "__init__": ["chain"], "put": ["at", "step"], "take": ["at"], "undo": [], "redo": [], "chain": [],
    "__len__": [], "__eq__": ["other"],
}

# No clock, no random source, no files, no network: none of these gives any of them.
HARMLESS = ("__future__", "collections", "heapq", "itertools", "math")

# What reads or writes, or gives another answer in another run.
WITHOUT = ("open", "input", "print", "eval", "exec", "__import__", "hash", "id")


def tree_of(path):
    return ast.parse(path.read_text(encoding="utf-8"))


class InterfaceTest(unittest.TestCase):
    def test_functions_are_defined_in_their_files(self):
        for file, name in FUNCTIONS:
            with self.subTest(name=name):
                defined = [
                    node.name for node in tree_of(PACKAGE / (file + ".py")).body if isinstance(node, ast.FunctionDef)
                ]
                self.assertEqual(defined.count(name), 1)
                function = getattr(importlib.import_module("roundwaves." + file), name)
                self.assertEqual(function.__module__, "roundwaves." + file)

    def test_arguments_are_as_listed(self):
        for (file, name), parameters in FUNCTIONS.items():
            with self.subTest(name=name):
                function = getattr(importlib.import_module("roundwaves." + file), name)
                told = inspect.signature(function).parameters.values()
                self.assertEqual([one.name for one in told], parameters)
                self.assertTrue(all(one.default is one.empty for one in told))
                self.assertTrue(all(one.kind in (one.POSITIONAL_ONLY, one.POSITIONAL_OR_KEYWORD) for one in told))

    def test_methods_are_defined_in_the_class_itself(self):
        classes = [node for node in tree_of(PACKAGE / "desks.py").body if isinstance(node, ast.ClassDef)]
        self.assertEqual([node.name for node in classes], ["Desk"])
        defined = [node.name for node in classes[0].body if isinstance(node, ast.FunctionDef)]
        desk_class = importlib.import_module("roundwaves.desks").Desk
        for name, parameters in DESK_METHODS.items():
            with self.subTest(name=name):
                self.assertEqual(defined.count(name), 1)
                told = list(inspect.signature(vars(desk_class)[name]).parameters.values())
                self.assertEqual([one.name for one in told[1:]], parameters)
                self.assertTrue(all(one.default is one.empty for one in told))

    def test_init_defines_no_names(self):
        body = tree_of(PACKAGE / "__init__.py").body
        self.assertTrue(all(isinstance(node, ast.Expr) and isinstance(node.value, ast.Constant) for node in body))

    def test_the_package_holds_only_python_files(self):
        for path in PACKAGE.rglob("*"):
            if "__pycache__" not in path.parts and not path.is_dir():
                with self.subTest(path=path.name):
                    self.assertEqual(path.suffix, ".py")
                    self.assertFalse(path.name.startswith("test"))

    def test_only_harmless_imports(self):
        for path in PACKAGE.rglob("*.py"):
            for node in ast.walk(tree_of(path)):
                with self.subTest(path=path.name):
                    self.assertNotIsInstance(node, ast.Import)
                    if isinstance(node, ast.ImportFrom):
                        self.assertEqual(node.level, 0)
                        first = node.module.split(".")[0]
                        self.assertTrue(first == "roundwaves" or first in HARMLESS, node.module)
                    if isinstance(node, ast.Name):
                        self.assertNotIn(node.id, WITHOUT)


if __name__ == "__main__":
    unittest.main()
