import unittest

from splitscar.reader import read_file, read_levels
from splitscar.rules import Rule
from splitscar.texts import show_file, show_image, show_levels, table_of
from splitscar.trees import Tree

from tests.helpers import BIG, RULES, same, sample_levels

SMALL = Rule(2, 1, 2, 2)

# Images with their lines.
IMAGES = [
    (("head", 2, 0), "head 2 0"),
    (("head", 899, 999999999999999), "head 899 999999999999999"),
    (("space", 3, (), 0), "space 3 0"),
    (("space", 9, (3, 5, 8), 77), "space 9 77 3 5 8"),
    (("leaf", (), None), "leaf -"),
    (("leaf", (), 0), "leaf 0"),
    (("leaf", (), 12), "leaf 12"),
    (("leaf", ((-7, ""), (0, "a b"), (8, "~")), None), "leaf - -7 = 0 =a~_b 8 =~~"),
    (("leaf", ((1, ("at", 4, 9)), (2, "@4:9")), 5), "leaf 5 1 @4:9 2 =@4:9"),
    (("leaf", ((1, "~_"), (2, " ~ "), (3, "=="), (4, "|-")), 5), "leaf 5 1 =~~_ 2 =~_~~~_ 3 === 4 =|-"),
    (("inner", (5,), (2, 3)), "inner 2 5 3"),
    (("inner", (-9, 0, 9), (2, 7, 4, 3)), "inner 2 -9 7 0 4 9 3"),
    (("piece", "abcdefgh", 4), "piece 4 =abcdefgh"),
    (("piece", "", None), "piece - ="),
    (("piece", "  ~~", None), "piece - =~_~_~~~~"),
    (("free",), "free"),
]


class Levels(unittest.TestCase):
    def test_shown(self):
        self.assertEqual(show_levels((((),),)), "-")
        self.assertEqual(show_levels((((1, 2),),)), "1 2")
        self.assertEqual(show_levels((((5, 7),), ((-1,), (), (7, 8)))), "5 7\n-1 | - | 7 8")
        deep = (((5,),), ((3,), (7,)), ((1,), (3, 4), (), (BIG - 1,)))
        self.assertEqual(show_levels(levels=deep), "5\n3 | 7\n1 | 3 4 | - | 999999999999999")

    def test_read_back(self):
        for rule in RULES:
            for levels in sample_levels(rule):
                self.assertTrue(same(read_levels(rule, show_levels(levels)), levels))


class Images(unittest.TestCase):
    def test_shown(self):
        for image, line in IMAGES:
            self.assertEqual(show_image(image), line)
            self.assertEqual(show_image(image=image), line)

    def test_read_back(self):
        for image, line in IMAGES:
            self.assertTrue(same(read_file(line), (image,)), line)

    def test_files(self):
        file = tuple(image for image, _ in IMAGES)
        text = "\n".join(line for _, line in IMAGES)
        self.assertEqual(show_file(file), text)
        self.assertEqual(show_file(file=file), text)
        self.assertTrue(same(read_file(text), file))
        empty = (("head", 2, 0), ("space", 3, (), 0), ("leaf", (), None))
        self.assertEqual(show_file(empty), "head 2 0\nspace 3 0\nleaf -")

    def test_all_characters(self):
        text = "".join(chr(code) for code in range(32, 127) if code != 37)
        for start in range(0, len(text), 8):
            image = ("piece", text[start:start + 8], None)
            self.assertTrue(same(read_file(show_image(image)), (image,)))


class Tables(unittest.TestCase):
    def test_empty(self):
        self.assertEqual(table_of(Tree(SMALL)), "  0    0   0                -")

    def test_some(self):
        tree = Tree(SMALL, (((5, 7),), ((1 - BIG, 2), (), (7,))))
        self.assertEqual(table_of(tree=tree).split("\n"), [
            "  0    0   3                5",
            "  1    0   2 -999999999999999",
            "  1    1   0                -",
            "  1    2   1                7",
        ])

    def test_many_pages(self):
        for rule in RULES:
            tree = Tree.grown(rule, *range(180))
            lines = table_of(tree).split("\n")
            rows = list(tree.walk())
            self.assertEqual(len(lines), len(rows))
            for line, (level, page, integers) in zip(lines, rows):
                size = len(integers) + (0 if level == tree.depth - 1 else 1)
                least = str(min(integers)) if integers else "-"
                columns = [str(level).rjust(3), str(page).rjust(4), str(size).rjust(3), least.rjust(16)]
                self.assertEqual(line, " ".join(columns))


if __name__ == "__main__":
    unittest.main()
