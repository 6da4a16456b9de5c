"""Holds what properties and operators run, through all functions that they call, against L5 and L28 of LANGUAGE.md."""

import ast
import unittest

from tests.test_language import parsed

PLAIN = {"__init__", "__enter__", "__exit__", "__call__", "__iter__"}
MODIFYING = {
    "append", "clear", "extend", "insert", "pop", "remove", "reverse", "setdefault", "update", "add", "discard", "sort",
}
OWN_LISTS = (ast.List, ast.ListComp)


class Part:
    """A function or method of the package, with the file and the class in which it stands."""

    def __init__(self, file, owner, node):
        self.file = file
        self.owner = owner
        self.node = node

    def __repr__(self):
        return f"{self.file}.{self.owner}.{self.node.name}" if self.owner else f"{self.file}.{self.node.name}"

    def decorators(self):
        return [node.id for node in self.node.decorator_list if isinstance(node, ast.Name)]


class Package:
    """All functions of files, by what calls and attributes can reach."""

    def __init__(self, files):
        self.parts = []
        self.sources = {}
        self.bases = {}
        for file, tree in files:
            for node in tree.body:
                if isinstance(node, ast.FunctionDef):
                    self.parts.append(Part(file, None, node))
                if isinstance(node, ast.ImportFrom):
                    for name in node.names:
                        self.sources[file, name.name] = node.module.rpartition(".")[2]
                if isinstance(node, ast.ClassDef):
                    self.bases[node.name] = [base.id for base in node.bases]
                    self.parts += [Part(file, node.name, item) for item in node.body if isinstance(item, ast.FunctionDef)]

    def roots(self):
        """The properties that are read, and all operators and the like."""
        found = []
        for part in self.parts:
            name = part.node.name
            is_sign = name.startswith("__") and name not in PLAIN
            if part.owner and (is_sign or "property" in part.decorators()):
                found.append(part)
        return found

    def calls(self, part):
        """The parts that a part can run: functions that it names, methods by their name, classes, properties."""
        found = []
        for node in ast.walk(part.node):
            if isinstance(node, ast.Name):
                source = self.sources.get((part.file, node.id), part.file)
                found += [other for other in self.parts if other.file == source and other.owner is None
                          and other.node.name == node.id]
            elif isinstance(node, ast.Call) and isinstance(node.func, ast.Name):
                made = part.owner if node.func.id == "cls" else node.func.id
                found += [other for other in self.parts if other.owner == made and other.node.name == "__init__"]
            elif isinstance(node, ast.Attribute):
                # An attribute may be called: then it is any method of this name, otherwise a property of it.
                found += [other for other in self.parts if other.owner and other.node.name == node.attr
                          and isinstance(node.ctx, ast.Load) and other is not part
                          and self.may_be_of(part.owner, node.value, other.owner)]
        return found

    def may_be_of(self, owner, value, other):
        """Whether an attribute of a value, read in a class, can be that of another class."""
        if isinstance(value, ast.Name) and value.id[0].isupper():
            return other == value.id
        if isinstance(value, ast.Name) and value.id == "cls":
            return owner == other or other in self.bases[owner] or owner in self.bases[other]
        if isinstance(value, ast.Call) and isinstance(value.func, ast.Name) and value.func.id == "super":
            return other in self.bases[owner]
        return True

    def reached(self):
        """All parts that a property or an operator runs, each with the one through which it was found."""
        found = {part: None for part in self.roots()}
        rest = list(found)
        while rest:
            part = rest.pop()
            for other in self.calls(part):
                if other not in found and not self.is_setter(other):
                    found[other] = part
                    rest.append(other)
        return found

    def is_setter(self, part):
        return any(isinstance(node, ast.Attribute) for node in part.node.decorator_list)


def whole_package():
    return Package([(path.stem, tree) for path, _, tree in parsed()])


def yields(part):
    return any(isinstance(node, (ast.Yield, ast.YieldFrom)) for node in ast.walk(part.node))


def own_lists(node):
    """The names to which a function gives lists of its own, and nothing else."""
    given = {}
    for item in ast.walk(node):
        if isinstance(item, ast.Assign):
            for target in item.targets:
                for name, value in pairs_given(target, item.value):
                    given.setdefault(name, []).append(value)
        elif isinstance(item, (ast.For, ast.comprehension)):
            for part in ast.walk(item.target):
                if isinstance(part, ast.Name):
                    given.setdefault(part.id, []).append(None)
    for part in node.args.args + node.args.kwonlyargs:
        given.setdefault(part.arg, []).append(None)
    return {name for name, values in given.items() if all(is_own_list(value) for value in values)}


def pairs_given(target, value):
    """The names of a target with what is given to each, None where this is not seen."""
    if isinstance(target, ast.Name):
        return [(target.id, value)]
    if isinstance(target, ast.Tuple):
        values = value.elts if isinstance(value, ast.Tuple) else [None] * len(target.elts)
        return [pair for part, given in zip(target.elts, values) for pair in pairs_given(part, given)]
    return []


def is_own_list(value):
    if isinstance(value, ast.Call) and isinstance(value.func, ast.Name):
        return value.func.id in ("list", "sorted")
    return isinstance(value, OWN_LISTS)


def changes(part):
    """The lines in which a part changes what it did not create itself, or calls what it was passed."""
    lists = own_lists(part.node)
    passed = {item.arg for item in part.node.args.args + part.node.args.kwonlyargs}
    if part.node.args.vararg:
        passed.add(part.node.args.vararg.arg)
    found = []
    for node in ast.walk(part.node):
        if isinstance(node, (ast.Attribute, ast.Subscript)) and not isinstance(node.ctx, ast.Load):
            base = node.value.id if isinstance(node.value, ast.Name) else None
            # What an `__init__` sets is a part of the new object.
            if not (isinstance(node, ast.Subscript) and base in lists) and part.node.name != "__init__":
                found.append(node.lineno)
        if isinstance(node, (ast.AugAssign, ast.Delete, ast.Global, ast.Nonlocal)):
            found.append(node.lineno)
        if isinstance(node, ast.Call):
            if isinstance(node.func, ast.Name) and node.func.id in passed - {"cls"}:
                found.append(node.lineno)
            if isinstance(node.func, ast.Attribute) and node.func.attr in MODIFYING:
                if not isinstance(node.func.value, ast.Name) or node.func.value.id not in lists:
                    found.append(node.lineno)
            if not isinstance(node.func, (ast.Name, ast.Attribute)):
                found.append(node.lineno)
    return found


SAMPLE = """
def table_of(file):
    return tuple(records_in(file))


def records_in(file):
    for record in walk(file):
        yield record


def walk(file):
    return [file]


def keep(row, found):
    found.append(row)


def noted(rows, work):
    mine = []
    for row in rows:
        mine.append(work(row))
        keep(row, mine)
    return mine


class Box:
    def __init__(self, file):
        self._file = file

    @property
    def table(self):
        return table_of(self._file)

    @property
    def plain(self):
        return len(self.inner())

    def inner(self):
        self._file = ()
        return self.table

    def __getitem__(self, at):
        return noted([at], self.free)

    def free(self, row):
        yield row
"""


class Reached(unittest.TestCase):
    def test_no_property_and_no_operator_runs_a_yield(self):
        found = whole_package().reached()
        for part, through in found.items():
            self.assertFalse(yields(part), f"{part}, run through {through}")

    def test_what_they_run_changes_nothing(self):
        found = whole_package().reached()
        for part, through in found.items():
            self.assertEqual(changes(part), [], f"{part}, run through {through}")

    def test_much_is_reached(self):
        names = {repr(part) for part in whole_package().reached()}
        for name in ("store.Store.table", "scans.table_of", "scans.held_between", "values.held_value", "images.path_to",
                     "store.Store.__getitem__", "scans.value_of", "store.Store.__contains__", "scans.keys_between",
                     "puts.with_key", "rules.Rule.leaf_parts", "texts.show_levels", "strikes.needs"):
            self.assertIn(name, names)
        self.assertNotIn("trees.Tree.walk", names)

    def test_faults_are_found(self):
        """What is looked for in the package is found where it stands."""
        found = Package([("sample", ast.parse(SAMPLE))]).reached()
        self.assertEqual({repr(part) for part in found if yields(part)}, {"sample.records_in", "sample.Box.free"})
        wrong = {repr(part): len(changes(part)) for part in found if changes(part)}
        self.assertEqual(wrong, {"sample.keep": 1, "sample.noted": 1, "sample.Box.inner": 1})


if __name__ == "__main__":
    unittest.main()
