import unittest

from splitscar.ripeness import is_ripe, kept_page, leading, ripe_pages
from splitscar.rules import Rule
from splitscar.shapes import shape_of

from tests.helpers import RULES, same, sample_levels
from tests.shape_models import keeps_left, model_leading, model_ripe

LEFT = Rule(2, 1, 3, 2)
RIGHT = Rule(1, 2, 2, 3)
SIZES = ((3,), (3, 2, 4), (2, 1, 2, 1, 1, 1, 1, 2, 2))


class Edge(unittest.TestCase):
    def test_kept_page(self):
        self.assertTrue(same([kept_page(LEFT, SIZES, level) for level in range(3)], [0, 0, 0]))
        self.assertTrue(same([kept_page(RIGHT, SIZES, level) for level in range(3)], [0, 2, 8]))
        for rule in RULES:
            for level, row in enumerate(SIZES):
                self.assertEqual(kept_page(rule, SIZES, level), 0 if keeps_left(rule) else len(row) - 1)

    def test_even_parts_keep_left(self):
        self.assertEqual(kept_page(Rule(2, 2, 2, 2), SIZES, 2), 0)
        self.assertEqual(kept_page(Rule(2, 2, 2, 3), SIZES, 2), 8)


class Leading(unittest.TestCase):
    def test_order(self):
        self.assertTrue(same(leading(LEFT, SIZES, 0, 0), (0, 1)))
        self.assertTrue(same(leading(RIGHT, SIZES, 0, 0), (2, 1)))
        self.assertTrue(same(leading(LEFT, SIZES, 1, 2), (5, 6)))
        self.assertTrue(same(leading(RIGHT, SIZES, 1, 2), (8, 7)))
        self.assertTrue(same(leading(RIGHT, SIZES, 1, 0), (2, 1)))

    def test_no_more_than_are_below(self):
        wide = Rule(2, 2, 4, 4)
        self.assertEqual(leading(wide, ((2,), (3, 3), (1,) * 6), 0, 0), (0, 1))
        self.assertEqual(leading(wide, ((2,), (3, 3), (1,) * 6), 1, 1), (3, 4, 5))
        self.assertEqual(leading(Rule(2, 2, 4, 5), ((2,), (3, 3), (1,) * 6), 1, 1), (5, 4, 3))

    def test_leaves_have_none(self):
        for page in range(9):
            self.assertTrue(same(leading(LEFT, SIZES, 2, page), ()))
        self.assertTrue(same(leading(LEFT, ((2,),), 0, 0), ()))


class Ripe(unittest.TestCase):
    def test_leaves(self):
        self.assertEqual([is_ripe(LEFT, ((size,),), 0, 0) for size in (0, 1, 2)], [False, False, True])
        self.assertEqual([is_ripe(RIGHT, SIZES, 2, page) for page in range(9)], [size == 2 for size in SIZES[2]])

    def test_pages(self):
        self.assertEqual([is_ripe(LEFT, SIZES, 1, page) for page in range(3)], [True, False, False])
        self.assertEqual([is_ripe(RIGHT, SIZES, 1, page) for page in range(3)], [True, False, True])
        self.assertIs(is_ripe(LEFT, SIZES, 0, 0), True)
        self.assertIs(is_ripe(LEFT, ((2,), (2, 2)), 0, 0), False)
        self.assertIs(is_ripe(LEFT, ((3,), (1, 1, 2)), 0, 0), False)
        self.assertIs(is_ripe(LEFT, ((3,), (1, 2, 1)), 0, 0), True)
        self.assertIs(is_ripe(RIGHT, ((3,), (2, 1, 1)), 0, 0), False)

    def test_pages_of_the_sample(self):
        self.assertTrue(same(list(ripe_pages(LEFT, SIZES)), [(0, 0), (1, 0), (2, 0), (2, 2), (2, 7), (2, 8)]))

    def test_against_the_model(self):
        for rule in RULES:
            for levels in sample_levels(rule)[:40:2]:
                sizes = shape_of(levels)[0]
                ripe = []
                for level, row in enumerate(sizes):
                    for page in range(len(row)):
                        self.assertEqual(list(leading(rule, sizes, level, page)), model_leading(rule, sizes, level, page))
                        answer = model_ripe(rule, sizes, level, page)
                        self.assertIs(is_ripe(rule, sizes, level, page), answer)
                        if answer:
                            ripe.append((level, page))
                self.assertTrue(same(list(ripe_pages(rule, sizes)), ripe))

    def test_by_name(self):
        self.assertEqual(kept_page(rule=RIGHT, sizes=SIZES, level=1), 2)
        self.assertEqual(leading(rule=LEFT, sizes=SIZES, level=0, page=0), (0, 1))
        self.assertIs(is_ripe(rule=LEFT, sizes=SIZES, level=0, page=0), True)
        self.assertEqual(next(ripe_pages(rule=LEFT, sizes=SIZES)), (0, 0))

    def test_by_turns(self):
        first, second = ripe_pages(LEFT, SIZES), ripe_pages(RIGHT, SIZES)
        self.assertEqual([next(first), next(second), next(first), next(second)], [(0, 0), (0, 0), (1, 0), (1, 0)])


if __name__ == "__main__":
    unittest.main()
