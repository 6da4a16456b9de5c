"""The names and arguments that the interface lists, each defined in its own file."""

import ast
import importlib
import inspect
import pathlib
import unittest

from splitscar.faults import faults
from splitscar.ripeness import ripe_pages
from splitscar.trees import Tree

FOLDER = pathlib.Path(__file__).resolve().parent.parent / "splitscar"

FUNCTIONS = {
    "levels": {
        "is_levels": "rule value", "keys_of": "levels", "separators_of": "levels", "spot_of": "levels key",
        "leaf_for": "levels key", "ghosts_of": "levels",
    },
    "reader": {"read_levels": "rule text", "read_file": "text"},
    "texts": {"show_levels": "levels", "show_image": "image", "show_file": "file", "table_of": "tree"},
    "shapes": {
        "is_shape": "rule value", "shape_of": "levels", "mirrored_sizes": "sizes", "pages_below": "sizes level page",
    },
    "ripeness": {
        "kept_page": "rule sizes level", "leading": "rule sizes level page", "is_ripe": "rule sizes level page",
        "ripe_pages": "rule sizes",
    },
    "faults": {
        "faults": "rule shape", "fault": "rule shape", "tree_fault": "tree", "shows_fault": "rule shape value",
    },
    "leads": {"leads": "rule shape", "shows_grown": "rule shape value"},
    "shrinking": {"order_of": "tree"},
    "ordercheck": {"shows_order": "tree value", "first_apart": "tree keys"},
}

CLASSES = {
    "rules": {
        "Rule": {
            "__init__": "self leaf_left leaf_right page_left page_right", "__call__": "self keys",
            "parts": "self separators", "mirrored": "self", "read": "cls text", "__eq__": "self other",
            "__str__": "self", "__repr__": "self", "leaf_left": "self", "leaf_right": "self", "page_left": "self",
            "page_right": "self", "leaf_most": "self", "page_most": "self", "leaf_long": "self", "leaf_short": "self",
            "page_long": "self", "page_short": "self", "keeps_left": "self",
        },
    },
    "trees": {
        "Tree": {
            "__init__": "self rule levels", "rule": "self", "levels": "self", "stored": "self", "depth": "self",
            "walk": "self", "__getitem__": "self at", "__add__": "self other", "__sub__": "self other",
            "__contains__": "self x", "__len__": "self", "grown": "cls rule *keys", "read": "cls rule text",
            "__eq__": "self other", "__str__": "self", "__repr__": "self",
        },
    },
}


def arguments_of(node):
    """The parameters of a function in the source, as words."""
    words = [part.arg for part in node.args.posonlyargs + node.args.args]
    if node.args.vararg is not None:
        words.append("*" + node.args.vararg.arg)
    return " ".join(words + [part.arg for part in node.args.kwonlyargs])


def defined_in(name, kind):
    """The functions or classes at the module level of a file."""
    tree = ast.parse((FOLDER / f"{name}.py").read_text(encoding="utf-8"))
    return {node.name: node for node in tree.body if isinstance(node, kind)}


class Interface(unittest.TestCase):
    def test_functions(self):
        for module, functions in FUNCTIONS.items():
            found = defined_in(module, ast.FunctionDef)
            for name, words in functions.items():
                self.assertEqual(arguments_of(found[name]), words, (module, name))
                self.assertTrue(callable(getattr(importlib.import_module("splitscar." + module), name)))

    def test_classes(self):
        for module, classes in CLASSES.items():
            found = defined_in(module, ast.ClassDef)
            for name, methods in classes.items():
                own = {part.name: part for part in found[name].body if isinstance(part, ast.FunctionDef)}
                for method, words in methods.items():
                    self.assertEqual(arguments_of(own[method]), words, (module, name, method))

    def test_properties(self):
        for module, classes in CLASSES.items():
            for name, methods in classes.items():
                made = getattr(importlib.import_module("splitscar." + module), name)
                for method, words in methods.items():
                    if words == "self" and not method.startswith("__") and method not in ("mirrored", "walk"):
                        self.assertIsInstance(inspect.getattr_static(made, method), property, (name, method))

    def test_generators(self):
        for work in (Tree.walk, ripe_pages, faults):
            self.assertTrue(inspect.isgeneratorfunction(work))


if __name__ == "__main__":
    unittest.main()
