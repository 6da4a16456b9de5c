import random
import unittest

from splitscar.commits import applied, entry_of
from splitscar.images import empty_file, is_image, levels_of, path_to, tree_pages
from splitscar.levels import is_levels
from splitscar.rules import Rule

from tests.file_models import ModelFile, is_sound_file, random_deed
from tests.helpers import BIG, ODD_VALUES, RULES, same
from tests.variants import plain_image, variants

SMALL = Rule(2, 1, 2, 2)

IMAGES = [
    ("head", 2, 0), ("head", 0, 10 ** 59), ("space", 3, (), 0), ("space", 7, (2, 4, 5), 12),
    ("leaf", (), None), ("leaf", ((1, "a"),), 0), ("leaf", ((1 - BIG, ""), (0, "12345678"), (BIG - 1, "~ '=")), 17),
    ("leaf", ((3, ("at", 5, 9)), (4, ("at", 10 ** 59, 40)), (7, "x")), 4), ("inner", (5,), (2, 3)),
    ("inner", (1 - BIG, 0, BIG - 1), (9, 8, 0, 10)), ("piece", "a", None), ("piece", "12345678", 0), ("free",),
]

NO_IMAGES = ODD_VALUES + [
    ("torn",), ("free", None), ("free", ()), ["free"], ("Free",), ("head", 2), ("head", 2, 0, 0), ("head", -1, 0),
    ("head", True, 0), ("head", 2, False), ("head", None, 0), ("head", "2", 0), ("space", 3, [], 0), ("space", 3, 0, ()),
    ("space", 3, (2, 2), 0), ("space", 3, (3, 2), 0), ("space", 3, (True,), 0), ("space", 3, (-1,), 0),
    ("space", 3, (), -1), ("space", 3, ()), ("leaf", ()), ("leaf", [], None), ("leaf", (), -1), ("leaf", (), True),
    ("leaf", (), "-"), ("leaf", ((1, "a"), (1, "b")), None), ("leaf", ((2, "a"), (1, "b")), None),
    ("leaf", ([1, "a"],), None), ("leaf", ((1, "a", "b"),), None), ("leaf", ((1,),), None), ("leaf", (1, "a"), None),
    ("leaf", ((BIG, "a"),), None), ("leaf", ((True, "a"),), None), ("leaf", ((1, None),), None),
    ("leaf", ((1, "123456789"),), None), ("leaf", ((1, "a%"),), None), ("leaf", ((1, "a\n"),), None),
    ("leaf", ((1, ("at", 3, 8)),), None), ("leaf", ((1, ("at", 3, 41)),), None), ("leaf", ((1, ("at", -1, 9)),), None),
    ("leaf", ((1, ("at", True, 9)),), None), ("leaf", ((1, ("at", None, 9)),), None), ("leaf", ((1, ["at", 3, 9]),), None),
    ("leaf", ((1, ("At", 3, 9)),), None), ("leaf", ((1, ("at", 3)),), None), ("inner", (), (2,)), ("inner", (), ()),
    ("inner", (5,), (2,)), ("inner", (5,), (2, 3, 4)), ("inner", [5], (2, 3)), ("inner", (5,), [2, 3]),
    ("inner", (5, 5), (2, 3, 4)), ("inner", (6, 5), (2, 3, 4)), ("inner", (BIG,), (2, 3)), ("inner", (5,), (2, -3)),
    ("inner", (5,), (2, None)), ("inner", (False,), (2, 3)), ("inner", ("5",), (2, 3)), ("piece", "", None),
    ("piece", "123456789", None), ("piece", "a%", None), ("piece", "\n", None), ("piece", None, None),
    ("piece", "a", -1), ("piece", "a", False), ("piece", "a"), ("piece", ("a",), None), (("free",),), ({},), ([],), ((),),
]


class Forms(unittest.TestCase):
    def test_images(self):
        for image in IMAGES:
            self.assertIs(is_image(image), True, image)

    def test_no_images(self):
        for value in NO_IMAGES:
            self.assertIs(is_image(value), False, value)

    def test_one_thing_changed(self):
        found = {True: 0, False: 0}
        for image in IMAGES:
            for value in variants(image):
                self.assertIs(is_image(value), plain_image(value), value)
                found[plain_image(value)] += 1
        self.assertGreater(found[True], 300)
        self.assertGreater(found[False], 3000)

    def test_lengths(self):
        for length in range(-1, 45):
            self.assertIs(is_image(("leaf", ((1, ("at", 2, length)),), None)), 9 <= length <= 40)
            self.assertIs(is_image(("leaf", ((1, "x" * length),), None)), length <= 8)
            self.assertIs(is_image(("piece", "x" * length, None)), 1 <= length <= 8)

    def test_characters(self):
        for code in range(0, 300):
            right = 32 <= code <= 126 and chr(code) != "%"
            self.assertIs(is_image(("leaf", ((1, "ab" + chr(code)),), None)), right)
            self.assertIs(is_image(("piece", chr(code), None)), right)

    def test_pages_below(self):
        for many in range(0, 6):
            for below in range(0, 8):
                image = ("inner", tuple(range(many)), tuple(range(below)))
                self.assertIs(is_image(image), many > 0 and below == many + 1)

    def test_by_name(self):
        self.assertIs(is_image(value=("free",)), True)


class Files(unittest.TestCase):
    def test_the_empty_file(self):
        self.assertTrue(same(empty_file(), (("head", 2, 0), ("space", 3, (), 0), ("leaf", (), None))))
        self.assertTrue(same(levels_of(empty_file()), (((),),)))
        self.assertTrue(same(list(tree_pages(empty_file())), [(0, 0, 2)]))
        self.assertTrue(same(path_to(empty_file(), 5), (2,)))

    def test_against_the_model(self):
        depths = set()
        for rule in RULES:
            for seed in range(4):
                rng = random.Random(seed)
                model, file = ModelFile(rule), empty_file()
                for _ in range((5, 20, 60, 120)[seed]):
                    deed = random_deed(rng, model.table(), range(200), rebuilds=0)
                    model.do(deed)
                    file = applied(file, entry_of(rule, file, deed))
                if seed == 3:
                    file = applied(file, entry_of(rule, file, ("rebuild",)))
                else:
                    self.held_against(model, file)
                levels = levels_of(file)
                depths.add(len(levels))
                self.assertTrue(is_levels(rule, levels))
                self.assertTrue(is_sound_file(rule, file))
                rows = list(tree_pages(file))
                self.assertEqual([row[:2] for row in rows],
                                 [(level, page) for level, row in enumerate(levels) for page in range(len(row))])
                for level, page, number in rows:
                    stored = file[number][1]
                    integers = tuple(key for key, _ in stored) if file[number][0] == "leaf" else stored
                    self.assertEqual(levels[level][page], integers)
        self.assertTrue(depths >= {1, 2, 3, 4})

    def held_against(self, model, file):
        numbers = [node.number for node in model.nodes()]
        self.assertEqual([number for _, _, number in tree_pages(file)], numbers)
        for key in list(range(-2, 203, 7)) + [1 - BIG, BIG - 1]:
            node, path = model.root, [model.root.number]
            while node.below:
                node = node.below[sum(1 for separator in node.separators if separator <= key)]
                path.append(node.number)
            self.assertTrue(same(path_to(file, key), tuple(path)))

    def test_pages_in_another_order(self):
        rng = random.Random(9)
        file = empty_file()
        for key in range(25):
            file = applied(file, entry_of(SMALL, file, ("put", key, "v" * key)))
        for _ in range(10):
            places = list(range(2, len(file)))
            rng.shuffle(places)
            moved = dict(zip(range(2, len(file)), places))
            images = {0: ("head", moved[file[0][1]], 0), 1: file[1]}
            for page in range(2, len(file)):
                images[moved[page]] = with_pages(file[page], moved)
            other = tuple(images[page] for page in range(len(file)))
            self.assertTrue(is_sound_file(SMALL, other))
            self.assertEqual(levels_of(other), levels_of(file))
            self.assertEqual(list(tree_pages(other)), [(a, b, moved[number]) for a, b, number in tree_pages(file)])
            for key in range(-1, 26):
                self.assertEqual(path_to(other, key), tuple(moved[page] for page in path_to(file, key)))

    def test_by_turns_and_by_name(self):
        file = empty_file()
        for key in range(7):
            file = applied(file, entry_of(SMALL, file, ("put", key, "")))
        first, second = tree_pages(file=file), tree_pages(file)
        found = [next(first), next(second), next(first), next(second)]
        self.assertEqual(found[0::2] + list(first), found[1::2] + list(second))
        self.assertEqual(path_to(key=3, file=file), path_to(file, 3))
        self.assertEqual(levels_of(file=file), levels_of(file))


def with_pages(image, moved):
    """An image with other numbers of pages."""
    link = lambda page: None if page is None else moved[page]
    if image[0] == "leaf":
        records = [(key, held if type(held) is str else ("at", moved[held[1]], held[2])) for key, held in image[1]]
        return ("leaf", tuple(records), link(image[2]))
    if image[0] == "inner":
        return ("inner", image[1], tuple(moved[page] for page in image[2]))
    if image[0] == "piece":
        return ("piece", image[1], link(image[2]))
    return image


if __name__ == "__main__":
    unittest.main()
