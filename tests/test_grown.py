"""Both sides of [11]: the sizes to which puts lead are just those without a fault."""

import random
import unittest

from splitscar.errors import NotGrown
from splitscar.faults import fault, tree_fault
from splitscar.leads import leads, shows_grown
from splitscar.ordercheck import shows_order
from splitscar.rules import Rule
from splitscar.shapes import is_shape, mirrored_sizes, shape_of
from splitscar.shrinking import order_of
from splitscar.trees import Tree

from tests.helpers import RULES, random_levels, same
from tests.shape_models import all_sizes, grown_sizes, levels_with

# Rules with the number of keys up to which all sizes are looked at.
CASES = [
    (Rule(1, 1, 2, 2), 9),
    (Rule(2, 1, 2, 2), 11),
    (Rule(1, 2, 2, 2), 11),
    (Rule(2, 2, 2, 2), 11),
    (Rule(3, 1, 2, 2), 11),
    (Rule(1, 1, 3, 2), 10),
    (Rule(1, 1, 2, 3), 10),
    (Rule(2, 1, 3, 2), 11),
    (Rule(1, 2, 2, 3), 11),
    (Rule(2, 2, 3, 2), 11),
]


class Grown(unittest.TestCase):
    def test_if_and_only_if_there_is_no_fault(self):
        for rule, most in CASES:
            reached = grown_sizes(rule, most)
            for many in range(most + 1):
                without = set()
                for sizes in all_sizes(rule, many):
                    if fault(rule, (sizes, ())) is None:
                        without.add(sizes)
                self.assertEqual(without, reached[many], (rule, many))

    def test_orders_of_all_grown_sizes(self):
        for rule, most in CASES:
            for sizes in grown_sizes(rule, most)[most]:
                tree = Tree(rule, levels_with((sizes, ())))
                self.assertIsNone(tree_fault(tree))
                self.assertTrue(shows_order(tree, order_of(tree)))
                self.assertTrue(shows_grown(rule, (sizes, ()), leads(rule, (sizes, ()))))

    def test_no_orders_of_the_others(self):
        for rule, most in CASES:
            many = most - 4
            reached = grown_sizes(rule, many)[many]
            for sizes in all_sizes(rule, many):
                self.assertTrue(is_shape(rule, (sizes, ())))
                if sizes in reached:
                    continue
                tree = Tree(rule, levels_with((sizes, ())))
                with self.assertRaises(NotGrown) as caught:
                    order_of(tree)
                self.assertTrue(same(caught.exception.fault, tree_fault(tree)))

    def test_mirrors(self):
        for rule, most in CASES:
            for many in range(most):
                for sizes in all_sizes(rule, many):
                    mirror = mirrored_sizes(sizes)
                    if not is_shape(rule.mirrored(), (mirror, ())):
                        continue
                    here = fault(rule, (sizes, ())) is None
                    there = fault(rule.mirrored(), (mirror, ())) is None
                    self.assertIs(here, there, (rule, sizes))

    def test_mirrors_of_trees_by_puts(self):
        for rule in RULES:
            for seed in range(8):
                sizes = shape_of(random_levels(rule, seed, 40))[0]
                tree = Tree(rule.mirrored(), levels_with((mirrored_sizes(sizes), ())))
                self.assertTrue(shows_order(tree, order_of(tree)))

    def test_a_put_keeps_them_grown(self):
        for rule in RULES:
            rng = random.Random(str(rule))
            tree = Tree(rule)
            for _ in range(80):
                key = rng.randrange(10 ** 6)
                if key not in tree:
                    tree = tree + key
                self.assertIsNone(tree_fault(tree))

    def test_ghosts_are_faults(self):
        for rule in RULES:
            sizes = shape_of(random_levels(rule, 4, 40))[0]
            self.assertIsNone(fault(rule, (sizes, ())))
            for leaf in range(1, len(sizes[-1])):
                self.assertEqual(fault(rule, (sizes, (leaf,))), (len(sizes) - 1, leaf, "ghost"))


if __name__ == "__main__":
    unittest.main()
