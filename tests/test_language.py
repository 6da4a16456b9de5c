"""Holds the files of the package against those rules of LANGUAGE.md that a syntax tree shows."""

import ast
import builtins
import pathlib
import re
import unittest

FOLDER = pathlib.Path(__file__).resolve().parent.parent / "splitscar"

ERROR_NAMES = (
    "Exception ValueError TypeError KeyError IndexError LookupError ZeroDivisionError ArithmeticError OverflowError "
    "RuntimeError NotImplementedError AttributeError StopIteration NotImplemented"
).split()

BUILTINS = set(ERROR_NAMES) | set(
    "len range enumerate zip min max sum abs sorted reversed int str bool list tuple dict set frozenset isinstance ord "
    "repr any all divmod iter next map property classmethod staticmethod super".split()
)

METHODS = set(
    "append clear copy count endswith extend find get index insert isalnum isalpha isdigit islower isspace isupper items "
    "join keys ljust lower lstrip partition pop remove replace reverse rfind rjust rpartition rsplit rstrip setdefault "
    "split splitlines startswith strip update upper values zfill bit_length add discard title capitalize swapcase "
    "casefold center expandtabs removeprefix removesuffix rindex isascii isdecimal isnumeric istitle isidentifier "
    "isprintable".split()
)

LIBRARY = {
    "heapq": {"heappush", "heappop", "heapify", "heapreplace", "heappushpop"},
    "math": {"gcd", "lcm", "isqrt", "comb", "perm", "factorial"},
    "itertools": {"product", "combinations", "permutations"},
}

UNUSED_NAMES = set(
    "register mro elements open input law version_info with_traceback add_note attrgetter breakpoint builtins compile "
    "copyright credits delattr dir eval exec exit gc getattr globals hasattr help id importlib license locals "
    "methodcaller os quit setattr type vars sys format format_map chr".split()
)

UNUSED_WORDS = re.compile(
    r"\b(type|typing|typing_extensions|enum|Enum|IntEnum|StrEnum|Flag|IntFlag|Generic|Protocol|ABC|ABCMeta|namedtuple"
    r"|NamedTuple|TypedDict|TYPE_CHECKING|abstractmethod|_wall|_WallAttr)\b|dataclass|overload|contextmanager|Meta"
)

DUNDERS = set(
    "init eq repr str len enter exit call iter lt le gt ge ne add sub mul contains getitem setitem bool".split()
)

BANNED_NODES = (
    ast.Global, ast.AsyncFunctionDef, ast.AsyncFor, ast.AsyncWith, ast.Await, ast.Div, ast.MatMult, ast.Import,
)

TAKE_LISTS = {"any", "all", "min", "max", "sum", "sorted"}


def parsed():
    """Each file of the package with its text and its tree."""
    for path in sorted(FOLDER.glob("*.py")):
        text = path.read_text(encoding="utf-8")
        yield path, text, ast.parse(text)


def docstrings(tree):
    found = set()
    for node in ast.walk(tree):
        if isinstance(node, (ast.Module, ast.ClassDef, ast.FunctionDef)) and node.body:
            first = node.body[0]
            if isinstance(first, ast.Expr) and isinstance(first.value, ast.Constant):
                found.add(id(first.value))
    return found


def own_methods():
    found = set()
    for _, _, tree in parsed():
        for node in ast.walk(tree):
            if isinstance(node, ast.ClassDef):
                found |= {item.name for item in node.body if isinstance(item, ast.FunctionDef)}
    return found


def setters():
    """The names of the properties that can be assigned."""
    found = set()
    for _, _, tree in parsed():
        for node in ast.walk(tree):
            if isinstance(node, ast.FunctionDef):
                found |= {part.value.id for part in node.decorator_list if getattr(part, "attr", None) == "setter"}
    return found


def generators():
    """The names of all functions and methods that yield."""
    found = set()
    for _, _, tree in parsed():
        for node in ast.walk(tree):
            if isinstance(node, ast.FunctionDef) and node.name != "__iter__":
                if any(isinstance(part, (ast.Yield, ast.YieldFrom)) for part in ast.walk(node)):
                    found.add(node.name)
    return found


def called_name(node):
    """The name by which a call calls, or None."""
    if not isinstance(node, ast.Call):
        return None
    return node.func.id if isinstance(node.func, ast.Name) else getattr(node.func, "attr", None)


class Files(unittest.TestCase):
    def test_the_folder(self):
        names = {path.name for path in FOLDER.iterdir() if path.name != "__pycache__"}
        self.assertIn("__init__.py", names)
        self.assertLessEqual(len(names), 100)
        for name in names:
            self.assertRegex(name, r"\A(__init__|__main__|[a-z][a-z0-9_]*)\.py\Z")

    def test_sizes_and_characters(self):
        for path, text, tree in parsed():
            self.assertLessEqual(len(text.splitlines()), 399, path)
            self.assertRegex(text, r"\A[ -~\n]*\Z", path)
            for number, line in enumerate(text.splitlines()):
                self.assertLessEqual(len(line), 120, (path, number + 1))
            for node in ast.walk(tree):
                if isinstance(node, ast.FunctionDef):
                    self.assertLessEqual(node.end_lineno - node.lineno + 1, 40, (path, node.name))

    def test_module_level(self):
        for path, _, tree in parsed():
            names = []
            for at, node in enumerate(tree.body):
                if isinstance(node, ast.Expr):
                    self.assertTrue(at == 0 and isinstance(node.value, ast.Constant), (path, node.lineno))
                elif isinstance(node, ast.ImportFrom):
                    names += [part.name for part in node.names]
                elif isinstance(node, ast.Assign):
                    self.assertEqual(len(node.targets), 1, (path, node.lineno))
                    names.append(node.targets[0].id)
                    ast.literal_eval(node.value)
                else:
                    self.assertIsInstance(node, (ast.FunctionDef, ast.ClassDef), (path, node.lineno))
                    names.append(node.name)
            self.assertEqual(len(names), len(set(names)), path)
            self.assertFalse(set(names) & set(dir(builtins)), path)


class Imports(unittest.TestCase):
    def test_sources(self):
        defined = {}
        for path, _, tree in parsed():
            names = {node.name for node in tree.body if isinstance(node, (ast.FunctionDef, ast.ClassDef))}
            names |= {node.targets[0].id for node in tree.body if isinstance(node, ast.Assign)}
            defined["splitscar." + path.stem] = names
        above = {}
        for path, text, tree in parsed():
            above[path.stem] = set()
            for node in ast.walk(tree):
                if not isinstance(node, ast.ImportFrom):
                    continue
                self.assertEqual(node.level, 0, path)
                source = LIBRARY.get(node.module) or defined[node.module]
                for part in node.names:
                    self.assertIn(part.name, source, path)
                    self.assertIsNone(part.asname, path)
                    self.assertGreater(len(re.findall(rf"\b{part.name}\b", text)), 1, (path, part.name))
                if node.module in defined:
                    above[path.stem].add(node.module.partition(".")[2])
        while above:
            free = [name for name in above if not above[name] & set(above)]
            self.assertTrue(free, f"these import each other: {sorted(above)}")
            for name in free:
                del above[name]


class Names(unittest.TestCase):
    def test_locals(self):
        for path, _, tree in parsed():
            taken = {part.name for node in tree.body if isinstance(node, ast.ImportFrom) for part in node.names}
            taken |= {node.name for node in tree.body if isinstance(node, ast.ClassDef)}
            taken |= set(dir(builtins)) | UNUSED_NAMES
            for node in ast.walk(tree):
                name = None
                if isinstance(node, ast.arg):
                    name = node.arg
                elif isinstance(node, ast.Name) and isinstance(node.ctx, ast.Store):
                    name = node.id
                elif isinstance(node, ast.FunctionDef) and not re.fullmatch("__[a-z]+__", node.name):
                    self.assertRegex(node.name, r"\A_?[a-z][a-z0-9_]*\Z", path)
                if name is not None:
                    self.assertNotIn(name, taken, (path, getattr(node, "lineno", None)))
                    self.assertRegex(name, r"\A(_|_?[A-Za-z][A-Za-z0-9_]*)\Z", path)

    def test_only_listed_builtins(self):
        for path, _, tree in parsed():
            stored = {node.id for node in ast.walk(tree) if isinstance(node, ast.Name) and isinstance(node.ctx, ast.Store)}
            stored |= {node.arg for node in ast.walk(tree) if isinstance(node, ast.arg)}
            stored |= {node.name for node in ast.walk(tree) if isinstance(node, (ast.FunctionDef, ast.ClassDef))}
            stored |= {part.name for node in tree.body if isinstance(node, ast.ImportFrom) for part in node.names}
            stored |= {node.name for node in ast.walk(tree) if isinstance(node, ast.ExceptHandler)}
            for node in ast.walk(tree):
                if isinstance(node, ast.Name) and node.id not in stored:
                    self.assertIn(node.id, BUILTINS, (path, node.lineno))

    def test_methods(self):
        known = METHODS | own_methods()
        for path, _, tree in parsed():
            for node in ast.walk(tree):
                if isinstance(node, ast.Call) and isinstance(node.func, ast.Attribute):
                    self.assertIn(node.func.attr, known, (path, node.lineno))
                if isinstance(node, ast.Attribute):
                    self.assertNotIn(node.attr, UNUSED_NAMES, (path, node.lineno))

    def test_double_underscores(self):
        for path, _, tree in parsed():
            for node in ast.walk(tree):
                if isinstance(node, ast.FunctionDef) and node.name.startswith("__"):
                    self.assertIn(node.name.strip("_"), DUNDERS, path)
                if isinstance(node, ast.Attribute) and node.attr.startswith("__"):
                    self.assertIn(node.attr, ("__init__", "__class__", "__name__"), path)

    def test_words(self):
        for path, text, tree in parsed():
            self.assertNotIn("(type)", text)
            self.assertNotIn("Meta", re.sub(r"\bMedia\b", "", text))
            plain = docstrings(tree)
            for node in ast.walk(tree):
                if isinstance(node, ast.Constant) and isinstance(node.value, str):
                    self.assertNotIn("%", node.value, (path, node.lineno))
                    if id(node) not in plain:
                        self.assertIsNone(UNUSED_WORDS.search(node.value.replace("type", "")), (path, node.lineno))
                        self.assertFalse(node.value.endswith(("._", ".__")), (path, node.lineno))
                for name in (getattr(node, "id", None), getattr(node, "attr", None), getattr(node, "name", None)):
                    if isinstance(name, str):
                        self.assertIsNone(UNUSED_WORDS.search(name), (path, name))


class Code(unittest.TestCase):
    def test_nodes(self):
        for path, _, tree in parsed():
            for node in ast.walk(tree):
                place = (path, getattr(node, "lineno", None))
                self.assertNotIsInstance(node, BANNED_NODES, place)
                if isinstance(node, ast.Constant):
                    self.assertNotIsInstance(node.value, (float, complex), place)
                if isinstance(node, ast.BinOp) and isinstance(node.op, ast.Pow):
                    self.assertIsInstance(node.right, ast.Constant, place)
                if isinstance(node, ast.Compare):
                    for sign, other in zip(node.ops, node.comparators):
                        if isinstance(sign, (ast.Is, ast.IsNot)):
                            self.assertIsInstance(other, ast.Constant, place)

    def test_generator_expressions_stand_in_no_test(self):
        for path, _, tree in parsed():
            for node in ast.walk(tree):
                if called_name(node) in TAKE_LISTS:
                    for part in node.args:
                        self.assertNotIsInstance(part, ast.GeneratorExp, (path, node.lineno))

    def test_generators_are_iterated_at_once(self):
        names = generators()
        for path, _, tree in parsed():
            iterated = set()
            for node in ast.walk(tree):
                if isinstance(node, (ast.For, ast.comprehension)):
                    iterated.add(id(node.iter))
                if isinstance(node, ast.YieldFrom):
                    iterated.add(id(node.value))
                if called_name(node) in ("list", "tuple", "dict", "enumerate", "zip"):
                    iterated |= {id(part) for part in node.args}
            for node in ast.walk(tree):
                if called_name(node) in names:
                    self.assertIn(id(node), iterated, (path, node.lineno))

    def test_no_name_is_a_method_and_an_attribute(self):
        methods = own_methods() - setters()
        for path, _, tree in parsed():
            for node in ast.walk(tree):
                if isinstance(node, ast.Attribute) and isinstance(node.ctx, ast.Store):
                    self.assertNotIn(node.attr, methods, (path, node.lineno))

    def test_names_of_class_methods_and_properties(self):
        """No name is that of a class method, of a property and of a plain method, whatever the classes."""
        kinds = {}
        for path, _, tree in parsed():
            for node in ast.walk(tree):
                if isinstance(node, ast.ClassDef):
                    for item in node.body:
                        if isinstance(item, ast.FunctionDef):
                            names = [getattr(part, "id", "property") for part in item.decorator_list]
                            kinds.setdefault(item.name, set()).add(names[0] if names else "plain")
                        elif isinstance(item, ast.Assign):
                            kinds.setdefault(item.targets[0].id, set()).add("value")
                if isinstance(node, ast.Attribute) and isinstance(node.ctx, ast.Store):
                    kinds.setdefault(node.attr, set()).add("attribute")
        for name, found in kinds.items():
            if name != "most":
                self.assertEqual(len(found), 1, (name, found))
        self.assertEqual(kinds["most"], {"property", "attribute"})

    def test_calls_with_stars(self):
        """Behind a star stand names, attributes and literals, and a call or a literal has one star at most."""
        for path, _, tree in parsed():
            for node in ast.walk(tree):
                if isinstance(node, ast.Starred):
                    self.assertIsInstance(node.value, (ast.Name, ast.Attribute, ast.Tuple, ast.List), (path, node.lineno))
                if isinstance(node, ast.Call):
                    self.assertLessEqual(sum(isinstance(part, ast.Starred) for part in node.args), 1, (path, node.lineno))
                if isinstance(node, ast.Dict):
                    self.assertLessEqual(node.keys.count(None), 1, (path, node.lineno))

    def test_nothing_is_deleted_and_nothing_added_in_place(self):
        for path, _, tree in parsed():
            for node in ast.walk(tree):
                self.assertNotIsInstance(node, (ast.AugAssign, ast.Delete), (path, getattr(node, "lineno", None)))

    def test_handlers_name_own_errors(self):
        own = {node.name for _, _, tree in parsed() for node in ast.walk(tree) if isinstance(node, ast.ClassDef)}
        for path, _, tree in parsed():
            for node in ast.walk(tree):
                if isinstance(node, ast.ExceptHandler):
                    self.assertIn(node.type.id, own, (path, node.lineno))

    def test_default_values_are_plain(self):
        for path, _, tree in parsed():
            for node in ast.walk(tree):
                if isinstance(node, ast.arguments):
                    for value in node.defaults + [part for part in node.kw_defaults if part is not None]:
                        self.assertNotIsInstance(ast.literal_eval(value), (list, dict, set), path)


if __name__ == "__main__":
    unittest.main()
