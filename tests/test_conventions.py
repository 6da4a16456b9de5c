"""[2]: any values are looked at without being changed, and answers to "whether" are True or False."""

import copy
import unittest

from splitscar.errors import InvalidKey, InvalidRule, InvalidText, InvalidTree, NoPage
from splitscar.faults import shows_fault
from splitscar.leads import shows_grown
from splitscar.levels import is_levels, leaf_for, spot_of
from splitscar.ordercheck import shows_order
from splitscar.reader import read_file, read_levels
from splitscar.rules import Rule
from splitscar.shapes import is_shape, pages_below
from splitscar.trees import Tree

from tests.helpers import ODD_VALUES, same

RULE = Rule(2, 1, 2, 2)
TREE = Tree.grown(RULE, 1, 2, 3)
SHAPE = (((2,), (2, 1)), ())


def nested(value, depth):
    for _ in range(depth):
        value = [value]
    return value


VALUES = ODD_VALUES + [
    nested(1, 20), nested((), 19), [[[1, 2]]], ([[1]],), [((1,),), ()], ([(1,)], []), [0, 0, "few"], ([0, 0, "few"],),
    {"a": {"b": [1]}}, list(range(4000)), tuple(range(4000)), tuple([] for _ in range(2000)), "x" * 6000, "\n" * 6000,
    {n: [n] for n in range(1000)},
]

WHETHER = {
    "is_levels": lambda value: is_levels(RULE, value),
    "in": lambda value: value in TREE,
    "is_shape": lambda value: is_shape(RULE, value),
    "shows_fault": lambda value: shows_fault(RULE, SHAPE, value),
    "shows_grown": lambda value: shows_grown(RULE, SHAPE, value),
    "shows_order": lambda value: shows_order(TREE, value),
    "equal rules": lambda value: RULE == value,
    "equal trees": lambda value: TREE == value,
}

REFUSING = {
    "Rule": (lambda value: Rule(value, 1, 2, 2), InvalidRule),
    "Rule.read": (lambda value: Rule.read(value), InvalidText),
    "Tree": (lambda value: Tree(RULE, value), InvalidTree),
    "read_levels": (lambda value: read_levels(RULE, value), InvalidText),
    "read_file": (lambda value: read_file(value), InvalidText),
    "leaf_for": (lambda value: leaf_for(TREE.levels, value), InvalidKey),
    "put": (lambda value: TREE + value, InvalidKey),
    "strike": (lambda value: TREE - value, InvalidKey),
    "grown": (lambda value: Tree.grown(RULE, value), InvalidKey),
    "item": (lambda value: TREE[value, 0], NoPage),
    "pages_below": (lambda value: pages_below(SHAPE[0], 0, value), NoPage),
}


class AnyValues(unittest.TestCase):
    def test_answers(self):
        for name, work in WHETHER.items():
            for value in VALUES:
                before = copy.deepcopy(value)
                self.assertIn(work(value), (True, False), name)
                self.assertIs(type(work(value)), bool, name)
                self.assertTrue(same(value, before), name)

    def test_errors(self):
        for name, (work, error) in REFUSING.items():
            for value in VALUES:
                # These are right for some of the functions.
                if type(value) is int or value == "1" or same(value, (((),),)):
                    continue
                before = copy.deepcopy(value)
                with self.assertRaises(error, msg=name):
                    work(value)
                self.assertTrue(same(value, before), name)
        self.assertEqual(TREE, Tree.grown(RULE, 1, 2, 3))

    def test_spots(self):
        for value in VALUES:
            self.assertTrue(same(spot_of(TREE.levels, value), {1: (0, 0), 2: (0, 1)}.get(value)
                                 if type(value) is int else None))


if __name__ == "__main__":
    unittest.main()
