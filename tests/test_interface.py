"""The names and arguments that the interface lists, each defined in its own file."""

import ast
import importlib
import inspect
import pathlib
import re
import unittest

from splitscar.before import before
from splitscar.falls import falls
from splitscar.faults import faults
from splitscar.hands import Crew
from splitscar.images import tree_pages
from splitscar.ripeness import ripe_pages
from splitscar.scans import records_in
from splitscar.store import Store
from splitscar.trees import Tree

FOLDER = pathlib.Path(__file__).resolve().parent.parent / "splitscar"

FUNCTIONS = {
    "levels": {
        "is_levels": "rule value", "keys_of": "levels", "separators_of": "levels", "spot_of": "levels key",
        "leaf_for": "levels key", "ghosts_of": "levels",
    },
    "reader": {"read_levels": "rule text", "read_file": "text"},
    "texts": {"show_levels": "levels", "show_image": "image", "show_file": "file", "table_of": "tree"},
    "shapes": {
        "is_shape": "rule value", "shape_of": "levels", "mirrored_sizes": "sizes", "pages_below": "sizes level page",
    },
    "ripeness": {
        "kept_page": "rule sizes level", "leading": "rule sizes level page", "is_ripe": "rule sizes level page",
        "ripe_pages": "rule sizes",
    },
    "faults": {
        "faults": "rule shape", "fault": "rule shape", "tree_fault": "tree", "shows_fault": "rule shape value",
    },
    "leads": {"leads": "rule shape", "shows_grown": "rule shape value"},
    "shrinking": {"order_of": "tree"},
    "ordercheck": {"shows_order": "tree value", "first_apart": "tree keys"},
    "before": {"before": "tree key", "count_before": "tree key", "is_before": "tree key value"},
    "between": {"way_between": "tree later * limit", "count_ways": "tree later * limit"},
    "betweencheck": {"shows_way": "tree later value"},
    "strikes": {"needs": "rule shape rooms"},
    "packing": {"packed_levels": "rule keys", "least_pages": "rule many"},
    "images": {
        "is_image": "value", "empty_file": "", "levels_of": "file", "tree_pages": "file", "path_to": "file key",
    },
    "deeds": {"is_deed": "value"},
    "entries": {"changes_between": "file later", "is_row": "value", "is_entry": "value"},
    "scans": {
        "records_in": "file * low high", "table_of": "file", "value_of": "file key", "keys_between": "file low high",
    },
    "commits": {"entry_of": "rule file deed", "applied": "file *entries"},
    "rooms": {
        "rooms_of": "tree", "fewest_strikes": "tree", "strike_rows": "tree", "least_deeds": "tree",
        "surely_struck": "tree",
    },
    "store": {"assign_most": "store value"},
    "falls": {"falls": "media step"},
    "recovery": {"recovered": "media", "mended": "media", "recovery_right": "media value"},
    "hands": {"is_job": "value"},
    "serial": {"serial_fault": "records rows", "table_after": "records rows", "is_serial": "records rows"},
    "backups": {"restored": "backup entries * upto"},
    "filecheck": {
        "file_fault": "rule value", "is_sound": "rule value", "tree_of": "rule value", "leaf_pages": "rule value",
    },
    "roomcheck": {"played_keys": "rule deeds", "shows_strikes": "tree value"},
    "later": {"struck_between": "first later", "puts_between": "first later * limit"},
    "missingcheck": {"shows_missing": "missing value", "sure_by": "missing value"},
}

DEFAULTS = {
    ("between", "way_between"): [500], ("between", "count_ways"): [500], ("scans", "records_in"): [None, None],
    ("backups", "restored"): [(), None], ("later", "puts_between"): [500],
}

CLASSES = {
    "rules": {
        "Rule": {
            "__init__": "self leaf_left leaf_right page_left page_right", "__call__": "self keys",
            "parts": "self separators", "mirrored": "self", "read": "cls text", "__eq__": "self other",
            "__str__": "self", "__repr__": "self", "leaf_left": "self", "leaf_right": "self", "page_left": "self",
            "page_right": "self", "leaf_most": "self", "page_most": "self", "leaf_long": "self", "leaf_short": "self",
            "page_long": "self", "page_short": "self", "keeps_left": "self",
        },
    },
    "trees": {
        "Tree": {
            "__init__": "self rule levels", "rule": "self", "levels": "self", "stored": "self", "depth": "self",
            "walk": "self", "__getitem__": "self at", "__add__": "self other", "__sub__": "self other",
            "__contains__": "self x", "__len__": "self", "grown": "cls rule *keys", "read": "cls rule text",
            "__eq__": "self other", "__str__": "self", "__repr__": "self",
        },
    },
    "store": {
        "Store": {
            "__init__": "self rule", "of": "cls rule file", "do": "self deed", "put": "self key value",
            "strike": "self key", "strike_range": "self low high", "rebuild": "self", "rule": "self", "file": "self",
            "levels": "self", "table": "self", "commit": "self", "born": "self", "last": "self",
            "__getitem__": "self at", "__contains__": "self x", "__len__": "self", "scan": "self * low high",
            "twin": "self", "trial": "self", "tried": "self work", "__eq__": "self other", "__repr__": "self",
        },
        "CountingStore": {"puts": "self", "struck": "self", "replaced": "self", "splits": "self"},
        "GuardedStore": {"__init__": "self rule * most", "of": "cls rule file", "fewest": "self", "most": "self"},
    },
    "media": {
        "Media": {
            "of": "cls file", "blank": "cls", "pages": "self", "base": "self", "log": "self", "entries": "self",
            "last": "self", "dirty": "self", "wrote": "self entry", "flushed": "self page", "cut": "self",
            "after": "self *steps", "checkpoint": "self", "damaged": "self *pages", "__eq__": "self other",
            "__repr__": "self",
        },
    },
    "logged": {
        "LoggedStore": {
            "__init__": "self rule", "of": "cls rule file", "media": "self", "entries": "self", "flush": "self *pages",
            "checkpoint": "self", "recover": "cls rule media",
        },
    },
    "hands": {
        "Crew": {
            "__init__": "self store *hands", "store": "self", "rows": "self", "is_done": "self", "ready": "self",
            "job": "self hand", "held": "self hand", "wanted": "self hand", "blockers": "self hand",
            "ended": "self hand", "turn": "self hand", "run": "self numbers", "__len__": "self", "__repr__": "self",
        },
    },
    "backups": {
        "Backup": {
            "__init__": "self store", "started": "self", "missing": "self", "fetch": "self *pages", "finish": "self",
        },
    },
    "evidence": {
        "Evidence": {
            "__init__": "self rule file", "of": "cls store", "rule": "self", "tree": "self", "levels": "self",
            "shape": "self", "table": "self", "born": "self", "commit": "self", "ghosts": "self", "fewest": "self",
            "struck_keys": "self", "verdict": "self", "paper": "self", "shows": "self value", "__eq__": "self other",
            "__len__": "self", "__repr__": "self",
        },
    },
    "missing": {
        "Missing": {
            "__init__": "self rule file rows * start", "numbers": "self", "puts": "self", "struck": "self",
            "least": "self", "shares": "self", "__getitem__": "self at", "__contains__": "self x", "__len__": "self",
            "__repr__": "self",
        },
    },
    "desk": {"Desk": {"__init__": "self", "say": "self line", "say_all": "self *lines"}},
}

NO_PROPERTIES = ("mirrored", "walk", "rebuild", "twin", "trial", "cut", "checkpoint", "finish", "verdict", "paper")


def arguments_of(node):
    """The parameters of a function in the source, as words."""
    words = [part.arg for part in node.args.posonlyargs + node.args.args]
    if node.args.vararg is not None:
        words.append("*" + node.args.vararg.arg)
    elif node.args.kwonlyargs:
        words.append("*")
    return " ".join(words + [part.arg for part in node.args.kwonlyargs])


def defined_in(name, kind):
    """The functions or classes at the module level of a file."""
    tree = ast.parse((FOLDER / f"{name}.py").read_text(encoding="utf-8"))
    return {node.name: node for node in tree.body if isinstance(node, kind)}


class Interface(unittest.TestCase):
    def test_functions(self):
        for module, functions in FUNCTIONS.items():
            found = defined_in(module, ast.FunctionDef)
            for name, words in functions.items():
                self.assertEqual(arguments_of(found[name]), words, (module, name))
                self.assertTrue(callable(getattr(importlib.import_module("splitscar." + module), name)))
                defaults = found[name].args.defaults + found[name].args.kw_defaults
                right = DEFAULTS.get((module, name), [])
                self.assertEqual([ast.literal_eval(value) for value in defaults], right, (module, name))

    def test_classes(self):
        for module, classes in CLASSES.items():
            found = defined_in(module, ast.ClassDef)
            for name, methods in classes.items():
                parts = [part for part in found[name].body if isinstance(part, ast.FunctionDef)]
                # A setter has the name of its property, which stands before it.
                own = {part.name: part for part in reversed(parts)}
                for method, words in methods.items():
                    self.assertEqual(arguments_of(own[method]), words, (module, name, method))

    def test_all_modules_of_the_interface(self):
        """Every module, and every name of it that the interface lists, is named here."""
        text = (FOLDER / ".." / ".." / "shared" / "DOC.md")
        if not text.exists():
            self.skipTest("the document is not at hand")
        interface = text.read_text(encoding="utf-8").partition("# The interface")[2]
        for module in re.findall(r"splitscar/(\w+)\.py", interface):
            self.assertTrue(module == "errors" or module in FUNCTIONS or module in CLASSES, module)
        for name in re.findall(r"[cC]lass `(\w+)", interface):
            self.assertTrue(any(name in classes for classes in CLASSES.values()), name)

    def test_properties(self):
        for module, classes in CLASSES.items():
            for name, methods in classes.items():
                made = getattr(importlib.import_module("splitscar." + module), name)
                for method, words in methods.items():
                    if words == "self" and not method.startswith("__") and method not in NO_PROPERTIES:
                        self.assertIsInstance(inspect.getattr_static(made, method), property, (name, method))

    def test_generators(self):
        for work in (Tree.walk, ripe_pages, faults, before, tree_pages, records_in, Store.scan, falls, Crew.run):
            self.assertTrue(inspect.isgeneratorfunction(work))


if __name__ == "__main__":
    unittest.main()
