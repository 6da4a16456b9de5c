import unittest

from splitscar.ordercheck import shows_order
from splitscar.packing import least_pages, packed_levels
from splitscar.rules import Rule
from splitscar.shapes import shape_of
from splitscar.shrinking import order_of
from splitscar.trees import Tree

from tests.helpers import RULES, model_is_levels, same
from tests.shape_models import all_sizes, model_faults


def pages_of(levels):
    return sum(len(pages) for pages in levels)


def more_rules():
    """Rules of all pairs of numbers for leaves, and of some for pages, that keep left and right."""
    found = []
    for one in range(1, 17):
        for other in range(1, one + 1):
            if one + other <= 17:
                for pages in [(2, 2), (3, 2), (9, 8), (15, 2)]:
                    found.append(Rule(one, other, *pages))
                    found.append(Rule(other, one, *pages[::-1]))
    return found


class Packed(unittest.TestCase):
    def test_all_numbers_of_keys(self):
        for rule in RULES:
            for many in range(301):
                keys = tuple(range(-3 * many, 0, 3))
                levels = packed_levels(rule, keys)
                tree = Tree(rule, levels)
                self.assertTrue(same(tree.stored, keys))
                if many < 40:
                    self.assertEqual(model_faults(rule, shape_of(levels)), [])
                self.assertTrue(same(least_pages(rule, many), pages_of(levels)))
                if many % 50 == 1:
                    self.assertTrue(model_is_levels(rule, levels))
                    self.assertTrue(shows_order(tree, order_of(tree)))

    def test_more_rules(self):
        for rule in more_rules():
            for many in (0, 1, 2, 7, 16, 17, 18, 33, 34, 100, 257, 300):
                keys = tuple(range(many))
                tree = Tree(rule, packed_levels(rule, keys))
                self.assertEqual(tree.stored, keys)
                self.assertEqual(pages_of(tree.levels), least_pages(rule, many))
                self.assertEqual(tuple(sorted(order_of(tree))), keys)

    def test_against_all_grown_sizes(self):
        for rule in RULES[:13]:
            for many in range(8 if rule.leaf_most == 1 else 10 if rule.leaf_most < 4 else 12):
                least = min(pages_of(sizes) for sizes in all_sizes(rule, many) if not model_faults(rule, (sizes, ())))
                self.assertEqual(least_pages(rule, many), least)
                self.assertEqual(pages_of(packed_levels(rule, tuple(range(many)))), least)

    def test_no_levels_have_fewer_pages(self):
        # A level has at least as many pages as full ones would be; so it cannot be done with fewer.
        for rule in RULES:
            for many in range(301):
                least = count = max(1, -(-many // rule.leaf_most))
                while count > 1:
                    count = -(-count // rule.page_most)
                    least += count
                self.assertEqual(least_pages(rule, many), least)

    def test_few_keys(self):
        rule = Rule(3, 2, 3, 2)
        self.assertTrue(same(packed_levels(rule, ()), (((),),)))
        self.assertTrue(same(packed_levels(rule, (7,)), (((7,),),)))
        self.assertEqual(packed_levels(rule, (1, 2, 3, 4)), (((1, 2, 3, 4),),))
        self.assertEqual(packed_levels(rule, (1, 2, 3, 4, 5)), (((4,),), ((1, 2, 3), (4, 5))))
        self.assertEqual([least_pages(rule, many) for many in (0, 1, 4, 5, 8, 9)], [1, 1, 1, 3, 3, 4])

    def test_the_same_each_time_and_by_name(self):
        rule = Rule(2, 4, 3, 3)
        keys = tuple(range(0, 600, 2))
        self.assertEqual(packed_levels(rule, keys), packed_levels(keys=keys, rule=rule))
        self.assertEqual(least_pages(many=300, rule=rule), pages_of(packed_levels(rule, keys)))


if __name__ == "__main__":
    unittest.main()
