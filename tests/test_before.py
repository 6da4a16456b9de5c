import random
import unittest

from splitscar.before import before, count_before, is_before
from splitscar.errors import NoKey
from splitscar.rules import Rule
from splitscar.trees import Tree

from tests.helpers import NO_KEYS, ODD_VALUES, RULES, model_is_levels, random_levels, same, struck_levels
from tests.tree_models import candidates_before, model_before, put_levels

SMALL = Rule(2, 1, 2, 2)


def small_trees(rule):
    """Trees of few leaves, with ghosts and empty leaves among them."""
    few = 3 + rule.leaf_most * 2 if rule.leaf_most < 5 else rule.leaf_most + 2
    found = []
    for seed in range(4):
        for many in range(1, few, 1 + few // 8):
            found.append(Tree(rule, random_levels(rule, seed, many)))
            found.append(Tree(rule, random_levels(rule, seed + 50, many + 2, strikes=many)))
            found.append(Tree(rule, struck_levels(rule, seed + 90, many + 2, many // 2)))
    return [tree for tree in found if len(tree.levels[-1]) < 9]


class SmallTrees(unittest.TestCase):
    def test_all_trees_before(self):
        most = 0
        for rule in RULES:
            for tree in small_trees(rule):
                for key in tree.stored:
                    found = list(before(tree, key))
                    levels = [earlier.levels for earlier in found]
                    self.assertTrue(same(levels, model_before(rule, tree.levels, key)))
                    self.assertTrue(all(type(earlier) is Tree and earlier.rule == rule for earlier in found))
                    self.assertIn((tree - key).levels, levels)
                    self.assertTrue(same(count_before(tree, key), len(levels)))
                    for earlier in found:
                        self.assertEqual(earlier.stored, (tree - key).stored)
                        self.assertTrue(model_is_levels(rule, earlier.levels))
                        self.assertEqual(Tree(rule, earlier.levels), earlier)
                        self.assertIs(is_before(tree, key, earlier.levels), True)
                    most = max(most, len(levels))
        self.assertGreater(most, 3)

    def test_other_levels(self):
        rng = random.Random(3)
        for rule in RULES[:12]:
            for tree in small_trees(rule)[::3]:
                for key in tree.stored[::3]:
                    known = model_before(rule, tree.levels, key)
                    every = list(candidates_before(rule, tree.levels, key))
                    for levels in rng.sample(every, min(20, len(every))):
                        self.assertIs(is_before(tree, key, levels), levels in known)

    def test_ghosts_and_empty_leaves(self):
        tree = Tree(SMALL, (((2, 4),), ((), (3,), ())))
        self.assertEqual([earlier.levels for earlier in before(tree, 3)], [(((2, 4),), ((), (), ()))])
        # The separator of the right part must be its first key.
        tree = Tree(SMALL, (((3, 5),), ((1, 2), (4,), (5,))))
        self.assertEqual([earlier.levels for earlier in before(tree, 1)], [(((3, 5),), ((2,), (4,), (5,)))])

    def test_a_new_root(self):
        tree = Tree(SMALL, (((3,),), ((1, 2), (3,))))
        self.assertEqual([earlier.levels for earlier in before(tree, 3)], [(((1, 2),),), (((3,),), ((1, 2), ()))])
        self.assertEqual([earlier.levels for earlier in before(tree, 1)], [(((2, 3),),), (((3,),), ((2,), (3,)))])
        ghost = Tree(SMALL, (((3,),), ((1, 2), (4,))))
        self.assertEqual([earlier.levels for earlier in before(ghost, 4)], [(((3,),), ((1, 2), ()))])

    def test_both_parts(self):
        # The leaf of 2 may be the right part of a split, and the left one.
        tree = Tree(Rule(1, 1, 2, 2), (((2, 3),), ((1,), (2,), (3,))))
        self.assertEqual([earlier.levels for earlier in before(tree, 2)], [
            (((2,),), ((1,), (3,))), (((2, 3),), ((1,), (), (3,))), (((3,),), ((1,), (3,))),
        ])


class Arguments(unittest.TestCase):
    def setUp(self):
        self.tree = Tree.grown(SMALL, *range(9)) - 4
        self.assertIn(4, [integer for pages in self.tree.levels[:-1] for page in pages for integer in page])

    def test_no_key(self):
        for value in NO_KEYS + [4, -1, 9, 999999999999999]:
            for work in (lambda: next(before(self.tree, value)), lambda: count_before(self.tree, value),
                         lambda: is_before(self.tree, value, self.tree.levels)):
                with self.assertRaises(NoKey) as caught:
                    work()
                self.assertTrue(same(caught.exception.key, value))

    def test_any_other_value(self):
        earlier = next(before(self.tree, 3)).levels
        for value in ODD_VALUES + [list(earlier), (earlier,), earlier[:-1], self.tree.levels, self.tree - 3,
                                   earlier[:-1] + (list(earlier[-1]),), (self.tree - 2).levels]:
            self.assertIs(is_before(self.tree, 3, value), False)
        one = Tree(SMALL, (((1,),),))
        self.assertIs(is_before(one, 1, (((),),)), True)
        tree = Tree(SMALL, (((0, 1),),))
        self.assertIs(is_before(tree, 0, (((True,),),)), False)
        self.assertIs(is_before(tree, 1, (((False,),),)), False)
        self.assertIs(is_before(tree, 1, (((0,),),)), True)
        # The key is there already, so it cannot be put.
        self.assertIs(is_before(tree, 1, tree.levels), False)

    def test_by_name(self):
        earlier = [tree.levels for tree in before(tree=self.tree, key=3)]
        self.assertEqual(count_before(tree=self.tree, key=3), len(earlier))
        self.assertTrue(is_before(tree=self.tree, key=3, value=earlier[0]))

    def test_by_turns(self):
        first, second = before(self.tree, 8), before(self.tree, 3)
        found = [next(first), next(second), next(first)]
        self.assertEqual(found[0::2] + list(first), list(before(self.tree, 8)))
        self.assertEqual(found[1:2] + list(second), list(before(self.tree, 3)))


class LargerTrees(unittest.TestCase):
    def test_histories(self):
        for rule in RULES:
            rng = random.Random(1)
            keys = rng.sample(range(2000), 300)
            tree = Tree.grown(rule, *keys[:270])
            for key in keys[270:]:
                later = tree + key
                found = [earlier.levels for earlier in before(later, key)]
                self.assertIn(tree.levels, found)
                self.assertIn((later - key).levels, found)
                self.assertEqual(found, sorted(set(found)))
                for levels in found:
                    self.assertEqual(put_levels(rule, levels, key), later.levels)
                tree = later

    def test_all_keys(self):
        for rule in RULES[::3]:
            tree = Tree(rule, random_levels(rule, 8, 300))
            self.assertEqual(len(tree), 300)
            for key in tree.stored:
                for earlier in before(tree, key):
                    self.assertEqual(earlier + key, tree)
                    self.assertTrue(is_before(tree, key, earlier.levels))


if __name__ == "__main__":
    unittest.main()
