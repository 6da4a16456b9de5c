import itertools
import random
import unittest

from splitscar.errors import NotGrown
from splitscar.levels import is_levels
from splitscar.ordercheck import first_apart, shows_order
from splitscar.rules import Rule
from splitscar.shapes import shape_of
from splitscar.shrinking import order_of
from splitscar.trees import Tree

from tests.helpers import ODD_VALUES, RULES, Model, model_levels, random_levels, same, sample_levels
from tests.shape_models import model_faults

SMALL = Rule(2, 1, 2, 2)


def pages_of(levels):
    return sum(len(level) for level in levels)


def greatest_levels(rule, keys):
    """Levels of as many of the keys as give at most 300 keys and 400 pages, put in this order."""
    model = Model(rule)
    last = model.levels()
    for key in keys[:300]:
        model.put(key)
        levels = model.levels()
        if pages_of(levels) > 400:
            return last
        last = levels
    return last


class Orders(unittest.TestCase):
    def check(self, rule, levels):
        tree = Tree(rule, levels)
        order = order_of(tree)
        self.assertIs(type(order), tuple)
        self.assertTrue(same(sorted(order), list(tree.stored)))
        self.assertTrue(same(model_levels(rule, order), levels), (rule, levels))
        self.assertIs(shows_order(tree, order), True)
        self.assertIsNone(first_apart(tree, order))
        self.assertTrue(same(order_of(tree), order))

    def test_empty_and_small(self):
        self.assertTrue(same(order_of(Tree(SMALL)), ()))
        self.assertTrue(same(order_of(Tree(SMALL, (((7,),),))), (7,)))
        for rule in RULES:
            for many in range(25):
                self.check(rule, model_levels(rule, range(many)))
                self.check(rule, model_levels(rule, range(many, 0, -1)))

    def test_many_orders(self):
        for rule in RULES:
            for seed in range(25):
                self.check(rule, random_levels(rule, seed, 5 + 4 * seed))

    def test_all_orders_of_seven_keys(self):
        for rule in [Rule(1, 1, 2, 2), SMALL, Rule(1, 2, 2, 2), Rule(2, 2, 2, 2), Rule(1, 1, 2, 3)]:
            made = {model_levels(rule, keys) for keys in itertools.permutations(range(7))}
            for levels in made:
                self.check(rule, levels)

    def test_greatest_sizes(self):
        reached = set()
        for rule in RULES:
            shuffled = list(range(300))
            random.Random(str(rule)).shuffle(shuffled)
            halves = list(range(150)) + list(range(299, 149, -1))
            for keys in [list(range(300)), list(range(300, 0, -1)), shuffled, halves]:
                levels = greatest_levels(rule, keys)
                if sum(len(leaf) for leaf in levels[-1]) == 300:
                    reached.add("keys")
                if pages_of(levels) >= 398:
                    reached.add("pages")
                self.check(rule, levels)
        self.assertEqual(reached, {"keys", "pages"})

    def test_not_grown(self):
        seen = set()
        for rule in RULES:
            for levels in sample_levels(rule):
                found = model_faults(rule, shape_of(levels))
                if not found:
                    self.check(rule, levels)
                    continue
                seen.add(found[0][2])
                with self.assertRaises(NotGrown) as caught:
                    order_of(Tree(rule, levels))
                self.assertTrue(same(caught.exception.fault, found[0]))
        self.assertEqual(seen, {"few", "edge", "lead", "ghost"})

    def test_by_name(self):
        tree = Tree.grown(SMALL, 3, 1, 2)
        order = order_of(tree=tree)
        self.assertIs(shows_order(tree=tree, value=order), True)
        self.assertIsNone(first_apart(tree=tree, keys=order))

    def test_the_tree_stays(self):
        tree = Tree.grown(SMALL, *range(30))
        levels = tree.levels
        order_of(tree)
        self.assertIs(tree.levels, levels)
        self.assertEqual(tree, Tree.grown(SMALL, *range(30)))


class ShowsOrder(unittest.TestCase):
    def test_all_orders(self):
        for rule in [SMALL, Rule(1, 2, 2, 2), Rule(1, 1, 2, 2)]:
            for levels in {model_levels(rule, keys) for keys in itertools.permutations(range(5))}:
                tree = Tree(rule, levels)
                for keys in itertools.permutations(range(5)):
                    self.assertIs(shows_order(tree, keys), model_levels(rule, keys) == levels)

    def test_levels_that_are_not_grown(self):
        tree = Tree(SMALL, (((3,),), ((1,), (3,))))
        for keys in [(1, 3), (3, 1)]:
            self.assertIs(shows_order(tree, keys), False)

    def test_other_values(self):
        tree = Tree.grown(SMALL, 0, 1)
        self.assertIs(shows_order(tree, (0, 1)), True)
        self.assertIs(shows_order(tree, (1, 0)), True)
        for value in ODD_VALUES + [
            [0, 1], (False, True), (0, True), (0,), (0, 1, 1), (0, 0), (0, 1, 2), (0, 2), ("0", 1), (0, None), (0, (1,)),
            {0: 1, 1: 0}, ((0, 1),), (0, 10 ** 59), tuple(range(5000)), (0,) * 5000,
        ]:
            self.assertIs(shows_order(tree, value), False, str(value)[:60])
        self.assertIs(shows_order(Tree(SMALL), ()), True)
        for value in ODD_VALUES:
            self.assertIs(shows_order(Tree(SMALL), value), same(value, ()))


def model_apart(first, second):
    """The first page that differs or that only one of two levels has."""
    places = {(level, page) for levels in (first, second) for level, row in enumerate(levels) for page in range(len(row))}
    for level, page in sorted(places):
        found = [
            levels[level][page] if level < len(levels) and page < len(levels[level]) else None
            for levels in (first, second)
        ]
        if found[0] != found[1]:
            return level, page
    return None


class FirstApart(unittest.TestCase):
    def test_some(self):
        tree = Tree.grown(SMALL, 1, 2, 3)
        self.assertIsNone(first_apart(tree, (2, 1, 3)))
        self.assertTrue(same(first_apart(tree, ()), (0, 0)))
        self.assertTrue(same(first_apart(tree, (1, 2)), (0, 0)))
        self.assertTrue(same(first_apart(tree, (3,)), (1, 0)))
        self.assertTrue(same(first_apart(Tree(SMALL, (((3,),),)), (1, 2, 3)), (1, 0)))
        self.assertTrue(same(first_apart(tree, (1, 2, 3, 4)), (1, 1)))
        self.assertTrue(same(first_apart(tree, (0, 2, 3)), (1, 0)))
        self.assertTrue(same(first_apart(Tree(SMALL), (5,)), (0, 0)))
        self.assertIsNone(first_apart(Tree(SMALL), ()))

    def test_the_last_page_of_one_only(self):
        tree = Tree(SMALL, (((3,),), ((1, 2), (3,))))
        other = Tree(SMALL, (((3, 5),), ((1, 2), (3, 4), (5,))))
        self.assertEqual(first_apart(tree, (1, 2, 3, 4, 5)), (0, 0))
        self.assertEqual(first_apart(other, (1, 2, 3)), (0, 0))

    def test_against_the_model(self):
        rng = random.Random(9)
        seen = set()
        for rule in RULES:
            for levels in sample_levels(rule)[:16]:
                tree = Tree(rule, levels)
                keys = list(tree.stored)
                rng.shuffle(keys)
                if rng.randrange(4) == 0 and keys:
                    keys.pop()
                answer = model_apart(levels, model_levels(rule, keys))
                seen.add(None if answer is None else answer[0])
                self.assertTrue(same(first_apart(tree, tuple(keys)), answer))
        self.assertGreater(len(seen), 2)

    def test_struck_levels(self):
        rule = Rule(3, 1, 2, 2)
        tree = Tree.grown(rule, *range(20)) - 4
        self.assertTrue(is_levels(rule, tree.levels))
        self.assertEqual(first_apart(tree, tuple(range(20))), (2, 1))


if __name__ == "__main__":
    unittest.main()
