import random
import unittest

from splitscar.commits import applied, entry_of
from splitscar.errors import NotSound
from splitscar.filecheck import file_fault, is_sound, leaf_pages, tree_of
from splitscar.images import empty_file, levels_of, tree_pages
from splitscar.rules import Rule
from splitscar.store import Store
from splitscar.trees import Tree

from tests.check_models import model_file_fault
from tests.file_models import is_sound_file, random_deed
from tests.helpers import BIG, ODD_VALUES, RULES, same
from tests.variants import variants

SMALL = Rule(2, 1, 2, 2)
WORDS = ("form", "image", "twice", "kind", "depth", "order", "right", "piece", "lost", "free")


def histories(rules, seeds, many, keys=range(25)):
    """Files behind each commit of histories."""
    for number, rule in enumerate(rules):
        for seed in range(seeds):
            rng = random.Random(100 * seed + number)
            store = Store(rule)
            files = [store.file]
            for _ in range(many):
                store.do(random_deed(rng, store.table, keys))
                files.append(store.file)
            yield rng, rule, files


class Sound(unittest.TestCase):
    def test_files_of_histories(self):
        for rng, rule, files in histories(RULES, 2, 40):
            for file in files:
                self.assertIsNone(file_fault(rule, file))
                self.assertIs(is_sound(rule, file), True)
                self.assertIsNone(model_file_fault(rule, file))
            self.assertTrue(same(tree_of(rule, files[-1]).levels, levels_of(files[-1])))

    def test_trees_and_leaves(self):
        for rng, rule, files in histories(RULES, 1, 30):
            for file in files[::7]:
                tree = tree_of(rule, file)
                self.assertIs(type(tree), Tree)
                self.assertEqual(tree, Tree(rule, levels_of(file)))
                pages = [number for level, _, number in tree_pages(file) if level == tree.depth - 1]
                self.assertTrue(same(leaf_pages(rule, file), tuple(pages)))
        self.assertEqual(tree_of(rule=SMALL, value=empty_file()), Tree(SMALL))
        self.assertTrue(same(leaf_pages(rule=SMALL, value=empty_file()), (2,)))
        self.assertIs(is_sound(rule=SMALL, value=empty_file()), True)
        self.assertIsNone(file_fault(rule=SMALL, value=empty_file()))

    def test_large_files(self):
        store = Store(Rule(1, 2, 2, 2))
        rng = random.Random(3)
        while len(store.file) < 880:
            store.put(rng.randrange(150), "x" * 40)
            self.assertIsNone(file_fault(store.rule, store.file))
        self.assertEqual(model_file_fault(store.rule, store.file), None)


class Faults(unittest.TestCase):
    def check(self, rule, value):
        right = model_file_fault(rule, value)
        self.assertTrue(same(file_fault(rule, value), right), (file_fault(rule, value), right))
        self.assertIs(is_sound(rule, value), right is None)
        if right is not None:
            for work in (tree_of, leaf_pages):
                with self.assertRaises(NotSound) as caught:
                    work(rule, value)
                self.assertTrue(same((caught.exception.page, caught.exception.word), right))
        else:
            self.assertTrue(is_sound_file(rule, value))
        return right

    def test_some_things_changed(self):
        words = {}
        for rng, rule, files in histories(RULES, 3, 30):
            for _ in range(150):
                file = list(rng.choice(files[5:]))
                for _ in range(rng.randrange(1, 4)):
                    self.change(rng, file)
                right = self.check(rule, tuple(file))
                word = right[1] if right else None
                words[word] = words.get(word, 0) + 1
        for word in WORDS[1:] + (None,):
            self.assertGreater(words.get(word, 0), 2, word)

    def change(self, rng, file):
        """Changes one thing in the list of the images of a file."""
        page, other = rng.randrange(len(file)), rng.randrange(len(file))
        luck = rng.random()
        if luck < 0.15:
            file[page], file[other] = file[other], file[page]
        elif luck < 0.25:
            file[page] = file[other]
        elif luck < 0.32 and page > 1:
            file[page] = ("free",)
        elif luck < 0.38:
            file[0] = ("head", other, file[0][2]) if file[0][0] == "head" else file[0]
        elif luck < 0.44:
            file.append(rng.choice([("free",), file[page]]))
        elif luck < 0.48 and len(file) > 3:
            file.pop()
        elif luck < 0.55 and file[1][0] == "space":
            free = set(file[1][2]) ^ {other}
            file[1] = ("space", rng.choice([len(file), len(file), other]), tuple(sorted(free)), file[1][3])
        else:
            self.change_image(rng, file, page, other)

    def change_image(self, rng, file, page, other):
        image = file[page]
        if image[0] == "leaf":
            records, right = list(image[1]), image[2]
            luck = rng.random()
            if luck < 0.3 and records:
                records.pop(rng.randrange(len(records)))
            elif luck < 0.6:
                records = sorted(dict(records + [(rng.randrange(-3, 30), rng.choice(["", ("at", other, 17)]))]).items())
            elif records and luck < 0.8:
                at = rng.randrange(len(records))
                records[at] = (records[at][0], ("at", other, rng.choice([9, 16, 17, 40])))
            else:
                right = rng.choice([None, other])
            file[page] = ("leaf", tuple(records), right)
        elif image[0] == "inner":
            separators, lower = list(image[1]), list(image[2])
            at = rng.randrange(len(lower))
            if rng.random() < 0.5:
                lower[at] = other
            elif rng.random() < 0.5 and len(separators) > 1:
                del separators[0], lower[at]
            else:
                separators = sorted(set(separators[1:] + [rng.randrange(-3, 30)]) | {separators[-1]})[:len(separators)]
                lower = lower[:len(separators) + 1]
            file[page] = ("inner", tuple(separators), tuple(lower))
        elif image[0] == "piece":
            file[page] = ("piece", rng.choice([image[1], "x", "12345678"]), rng.choice([None, other, image[2]]))

    def test_any_part_otherwise(self):
        met = 0
        for rng, rule, files in histories([SMALL, Rule(1, 2, 2, 2)], 1, 9, keys=range(6)):
            for file in (files[3], files[-1]):
                for value in variants(file):
                    met += 1
                    self.check(rule, value)
        self.assertGreater(met, 1500)

    def test_any_values(self):
        for rule in (SMALL, RULES[-1]):
            for value in ODD_VALUES:
                self.assertTrue(same(self.check(rule, value), (-1, "form")))

    def test_how_many_items(self):
        file = empty_file()
        for value in [(), file[:1], file[:2], list(file), (("free",),) * 901, (None,) * 5000]:
            self.assertTrue(same(self.check(SMALL, value), (-1, "form")))
        for many in (3, 4, 899, 900, 901):
            free = tuple(range(3, many))
            value = (file[0], ("space", many, free, 0), file[2]) + (("free",),) * (many - 3)
            self.assertTrue(same(self.check(SMALL, value), (-1, "form") if many == 901 else None))

    def test_a_wrong_kind_at_any_depth(self):
        store = Store(SMALL)
        store.put(1, "a")
        store.put(0, "b" * 9)
        file = store.file
        self.assertIsNone(file_fault(SMALL, file))
        for page, image in [
            (0, ("head", 2, False)), (1, ("space", 5, (), True)), (1, ["space", 5, (), 2]), (1, ("space", 5, [], 2)),
            (2, ("leaf", ((False, ("at", 3, 9)), (1, "a")), None)), (2, ("leaf", ((0, ["at", 3, 9]), (1, "a")), None)),
            (2, ("leaf", [(0, ("at", 3, 9)), (1, "a")], None)), (3, ("piece", 12345678, 4)),
        ]:
            value = file[:page] + (image,) + file[page + 1:]
            self.assertTrue(same(self.check(SMALL, value), (page, "image")))


class Words(unittest.TestCase):
    """Small files with each fault."""

    def wrong(self, right, *images, rule=SMALL, commit=9, free=()):
        file = (("head", 2, 0), ("space", len(images) + 2, free, commit)) + images
        self.assertTrue(same(file_fault(rule, file), right), file_fault(rule, file))
        self.assertTrue(same(model_file_fault(rule, file), right))

    def leaf(self, *keys, right=None):
        return ("leaf", tuple((key, "") for key in keys), right)

    def test_sound(self):
        self.wrong(None, self.leaf(1))
        self.wrong(None, ("inner", (5,), (3, 4)), self.leaf(1, right=4), self.leaf(5))
        self.wrong(None, ("inner", (5,), (3, 4)), self.leaf(right=4), self.leaf())
        self.wrong(None, ("leaf", ((1, ("at", 3, 9)),), None), ("piece", "12345678", 4), ("piece", "9", None))
        self.wrong(None, self.leaf(1), ("free",), ("free",), free=(3, 4))

    def test_image(self):
        for page, image in [(0, ("space", 3, (), 9)), (0, ("leaf", (), None)), (0, ("head", 3, 0)), (0, ("head", 1, 0)),
                            (0, ("head", 2, True)), (1, ("head", 2, 0)), (1, ("space", 4, (), 9)),
                            (1, ("space", 3, (3,), 9)), (1, ("space", 3, (1,), 9)), (1, ("free",)),
                            (2, ("head", 2, 0)), (2, ("space", 3, (), 9)), (2, ("leaf", (), 3)), (2, ("leaf", (), 0)),
                            (2, ("inner", (1,), (2, 3))), (2, ("piece", "a", 1)), (2, ("torn",)), (2, None),
                            (2, ("leaf", ((1, ("at", 3, 9)),), None)), (2, self.leaf(1, 2, 3))]:
            file = (("head", 2, 0), ("space", 3, (), 9), ("leaf", (), None))
            file = file[:page] + (image,) + file[page + 1:]
            self.assertTrue(same(file_fault(SMALL, file), (page, "image")))
            self.assertEqual(model_file_fault(SMALL, file), (page, "image"))
            # The least page comes first.
            self.assertEqual(file_fault(SMALL, file[:2] + (("torn",),)), (min(page, 2), "image"))
        self.assertEqual(file_fault(SMALL, (("head", 2, 4), ("space", 3, (), 3), ("leaf", (), None))), (1, "image"))
        self.assertIsNone(file_fault(SMALL, (("head", 2, 4), ("space", 3, (), 4), ("leaf", (), None))))
        leaves = tuple(self.leaf(5 * at, right=at + 4 if at < 3 else None) for at in range(4))
        self.wrong((2, "image"), ("inner", (5, 10, 15), (3, 4, 5, 6)), *leaves)
        self.wrong(None, ("inner", (5, 10, 15), (3, 4, 5, 6)), *leaves, rule=Rule(2, 1, 3, 2))

    def test_twice(self):
        self.wrong((3, "twice"), ("inner", (5,), (3, 3)), self.leaf(1))
        self.wrong((2, "twice"), ("inner", (5,), (2, 3)), self.leaf(5))
        self.wrong((2, "twice"), ("inner", (5,), (3, 2)), self.leaf(1))
        # A page that was met is no piece.
        self.wrong((2, "twice"), ("leaf", ((1, ("at", 2, 9)),), None))
        self.wrong((3, "twice"), ("leaf", ((1, ("at", 3, 17)),), None), ("piece", "12345678", 3))
        self.wrong((4, "twice"), ("leaf", ((1, ("at", 3, 9)), (2, ("at", 4, 9))), None), ("piece", "12345678", 4),
                   ("piece", "9", None))

    def test_kind(self):
        self.wrong((2, "kind"), ("free",), free=(2,))
        self.wrong((2, "kind"), ("piece", "a", None))
        self.wrong((4, "kind"), ("inner", (5,), (3, 4)), self.leaf(1), ("free",))
        self.wrong((3, "kind"), ("leaf", ((1, ("at", 3, 9)),), None), ("free",), free=(3,))
        self.wrong((4, "kind"), ("leaf", ((1, ("at", 3, 9)),), None), ("piece", "12345678", 4), self.leaf(2))

    def test_depth(self):
        self.wrong((4, "depth"), ("inner", (5,), (3, 4)), self.leaf(1), ("inner", (7,), (5, 6)), self.leaf(5), self.leaf(7))
        self.wrong((4, "depth"), ("inner", (7,), (3, 4)), ("inner", (5,), (5, 6)), self.leaf(7), self.leaf(1), self.leaf(5))
        # A leaf on another level is told before its order.
        self.wrong((4, "depth"), ("inner", (7,), (3, 4)), ("inner", (5,), (5, 6)), self.leaf(1), self.leaf(1), self.leaf(5))

    def test_order(self):
        self.wrong((3, "order"), ("inner", (5,), (3, 4)), self.leaf(5, right=4), self.leaf())
        self.wrong((4, "order"), ("inner", (5,), (3, 4)), self.leaf(1, right=4), self.leaf(4))
        self.wrong((3, "order"), ("inner", (5,), (3, 4)), self.leaf(6), self.leaf(4))
        tree = (("inner", (9,), (3, 4)), ("inner", (5,), (5, 6)), ("inner", (12,), (7, 8)),
                self.leaf(1, right=6), self.leaf(5, right=7), self.leaf(9, right=8), self.leaf(12))
        self.wrong(None, *tree)
        for at, image, page in [(1, ("inner", (9,), (5, 6)), 3), (2, ("inner", (9,), (7, 8)), 4),
                                (2, ("inner", (8,), (7, 8)), 4), (1, ("inner", (10,), (5, 6)), 3),
                                (4, self.leaf(9, right=7), 6), (4, self.leaf(4, right=7), 6), (5, self.leaf(8, right=8), 7)]:
            self.wrong((page, "order"), *tree[:at], image, *tree[at + 1:])
        edge = BIG - 1
        self.wrong(None, ("inner", (-edge,), (3, 4)), self.leaf(right=4), self.leaf(-edge, edge))
        self.wrong((3, "order"), ("inner", (-edge,), (3, 4)), self.leaf(-edge, right=4), self.leaf())

    def test_the_order_of_the_pages(self):
        # A page comes before those below it, and these before the page to the right.
        self.wrong((5, "order"), ("inner", (9,), (3, 4)), ("inner", (5,), (5, 6)), ("inner", (1,), (7, 8)),
                   self.leaf(7), self.leaf(5), self.leaf(), self.leaf())
        self.wrong((3, "order"), ("inner", (9,), (3, 4)), ("inner", (9,), (5, 6)), ("inner", (1,), (7, 8)),
                   self.leaf(7), self.leaf(5), self.leaf(), self.leaf())

    def test_right(self):
        for first, second, page in [(None, None, 3), (3, None, 3), (2, None, 3), (4, 3, 4), (4, 4, 4), (5, None, 3)]:
            self.wrong((page, "right"), ("inner", (5,), (3, 4)), self.leaf(1, right=first), self.leaf(5, right=second),
                       ("free",), free=(5,))
        self.wrong((2, "right"), self.leaf(1, right=2))

    def test_piece(self):
        def value(*pieces, length=17):
            return (("leaf", ((1, ("at", 3, length)),), None),) + tuple(
                ("piece", text, following) for text, following in pieces)
        self.wrong(None, *value(("12345678", 4), ("12345678", 5), ("9", None)))
        self.wrong((3, "piece"), *value(("1234567", 4), ("12345678", 5), ("9", None)))
        self.wrong((5, "piece"), *value(("12345678", 4), ("12345678", 5), ("90", None)))
        self.wrong((4, "piece"), *value(("12345678", 4), ("12345678", None), ("9", None)))
        self.wrong((3, "piece"), *value(("12345678", None), ("9", None)))
        self.wrong((4, "piece"), *value(("12345678", 4), ("12345678", 5), ("9", None), length=16))
        self.wrong((5, "piece"), *value(("12345678", 4), ("12345678", 5), ("9", 6), ("9", None)))
        self.wrong((5, "piece"), *value(("12345678", 4), ("12345678", 5), ("9", 3)))
        self.wrong((3, "piece"), *value(("9", None), length=9))

    def test_lost(self):
        self.wrong((3, "lost"), self.leaf(1), ("piece", "a", None), ("leaf", (), None))
        self.wrong((4, "lost"), self.leaf(1), ("free",), ("inner", (1,), (2, 3)), free=(3, 4))
        self.wrong((3, "lost"), self.leaf(1), ("piece", "a", None), free=(3,))

    def test_free(self):
        for free in [(), (3,), (4,)]:
            self.wrong((1, "free"), self.leaf(1), ("free",), ("free",), free=free)
        self.wrong((1, "free"), self.leaf(1), ("free",), free=(2, 3))

    def test_the_order_of_the_words(self):
        # Each file has the fault of its word and all later ones.
        bad_value = ("leaf", ((5, ("at", 5, 9)),), 3)
        images = [("inner", (5,), (3, 4)), self.leaf(1), bad_value, ("free",), ("piece", "a", None)]
        self.wrong((3, "right"), *images)
        images[1] = self.leaf(1, right=4)
        self.wrong((4, "right"), *images)
        images[2] = ("leaf", ((5, ("at", 5, 9)),), None)
        self.wrong((5, "kind"), *images)
        images[2] = self.leaf(5)
        self.wrong((6, "lost"), *images)
        images[4] = ("free",)
        self.wrong((1, "free"), *images)
        self.wrong(None, *images, free=(5, 6))


class GoOn(unittest.TestCase):
    def test_commits_in_sound_files(self):
        for rng, rule, files in histories(RULES[::3], 1, 12):
            store = Store.of(rule, files[-1])
            for _ in range(12):
                deed = random_deed(rng, store.table, range(40))
                later = applied(store.file, entry_of(rule, store.file, deed))
                self.assertIs(is_sound(rule, later), True)
                store.do(deed)


if __name__ == "__main__":
    unittest.main()
