import random
import unittest

from splitscar.errors import InvalidKey, InvalidText, InvalidTree, NoKey, NoPage, Present
from splitscar.levels import keys_of
from splitscar.rules import Rule
from splitscar.texts import show_levels
from splitscar.trees import Tree

from tests.helpers import BIG, NO_KEYS, ODD_VALUES, RULES, Model, model_levels, same, sample_levels

SMALL = Rule(2, 1, 2, 2)


class Properties(unittest.TestCase):
    def test_empty(self):
        tree = Tree(SMALL)
        self.assertTrue(same(tree.levels, (((),),)))
        self.assertTrue(same(tree.stored, ()))
        self.assertTrue(same(tree.depth, 1))
        self.assertTrue(same(len(tree), 0))
        self.assertIs(tree.rule, SMALL)
        self.assertEqual(list(tree.walk()), [(0, 0, ())])

    def test_samples(self):
        for rule in RULES:
            for levels in sample_levels(rule)[::2]:
                tree = Tree(rule, levels)
                self.assertEqual(tree.rule, rule)
                self.assertTrue(same(tree.levels, levels))
                self.assertTrue(same(tree.stored, keys_of(levels)))
                self.assertTrue(same(tree.depth, len(levels)))
                self.assertTrue(same(len(tree), sum(len(leaf) for leaf in levels[-1])))

    def test_by_name(self):
        levels = (((5,),), ((1,), (5, 6)))
        tree = Tree(levels=levels, rule=SMALL)
        self.assertEqual(tree, Tree(SMALL, levels))
        self.assertEqual(Tree.read(rule=SMALL, text="5\n1 | 5 6"), tree)
        self.assertEqual(Tree.grown(rule=SMALL), Tree(SMALL))

    def test_wrong_levels(self):
        for value in ODD_VALUES:
            if same(value, (((),),)):
                continue
            with self.assertRaises(InvalidTree):
                Tree(SMALL, value)
            with self.assertRaises(InvalidTree):
                Tree(rule=SMALL, levels=value)

    def test_nothing_can_be_assigned(self):
        tree = Tree.grown(SMALL, 1, 2, 3)
        for name in ["rule", "levels", "stored", "depth"]:
            with self.assertRaises(AttributeError):
                setattr(tree, name, None)


class Pages(unittest.TestCase):
    def test_walk(self):
        for rule in RULES:
            for levels in sample_levels(rule)[::5]:
                rows = [
                    (level, page, integers)
                    for level, pages in enumerate(levels)
                    for page, integers in enumerate(pages)
                ]
                self.assertTrue(same(list(Tree(rule, levels).walk()), rows))

    def test_walks_by_turns(self):
        tree = Tree.grown(SMALL, 1, 2, 3)
        first, second = tree.walk(), tree.walk()
        self.assertEqual(next(first), (0, 0, (3,)))
        self.assertEqual(next(second), (0, 0, (3,)))
        self.assertEqual(next(first), (1, 0, (1, 2)))
        self.assertEqual(list(second), [(1, 0, (1, 2)), (1, 1, (3,))])
        self.assertEqual(list(first), [(1, 1, (3,))])

    def test_items(self):
        tree = Tree.grown(SMALL, *range(20))
        for level, page, integers in tree.walk():
            self.assertIs(tree[level, page], integers)

    def test_no_page(self):
        tree = Tree.grown(SMALL, 1, 2, 3)
        wrong = [(2, 0), (1, 2), (0, 1), (-1, 0), (0, -1), (1, -2), (True, 0), (0, False), (1, True), (10 ** 59, 0)]
        for value in ODD_VALUES:
            if type(value) is not int:
                wrong += [(value, 0), (0, value), (value, value)]
        for level, page in wrong:
            with self.assertRaises(NoPage) as caught:
                tree[level, page]
            self.assertIs(caught.exception.level, level)
            self.assertIs(caught.exception.page, page)


class PutsAndStrikes(unittest.TestCase):
    def test_a_leaf_is_split(self):
        tree = Tree(Rule(2, 1, 2, 2), (((1, 5),),))
        self.assertEqual((tree + 3).levels, (((5,),), ((1, 3), (5,))))
        self.assertEqual((tree + 9).levels, (((9,),), ((1, 5), (9,))))
        self.assertEqual((tree + 0).levels, (((5,),), ((0, 1), (5,))))
        self.assertEqual((Tree(Rule(1, 2, 2, 2), (((1, 5),),)) + 3).levels, (((3,),), ((1,), (3, 5))))
        self.assertEqual((Tree(Rule(1, 1, 2, 2), (((1,),),)) + 0).levels, (((1,),), ((0,), (1,))))

    def test_a_page_and_the_root_are_split(self):
        tree = Tree(SMALL, (((3, 5),), ((1, 2), (3, 4), (5, 6))))
        self.assertEqual((tree + 7).levels, (((5,),), ((3,), (7,)), ((1, 2), (3, 4), (5, 6), (7,))))
        self.assertEqual((tree + 0).levels, (((3,),), ((2,), (5,)), ((0, 1), (2,), (3, 4), (5, 6))))
        uneven = Tree(Rule(1, 1, 3, 2), (((2, 3, 4),), ((1,), (2,), (3,), (4,))))
        self.assertEqual((uneven + 5).levels, (((4,),), ((2, 3), (5,)), ((1,), (2,), (3,), (4,), (5,))))
        other = Tree(Rule(1, 1, 2, 3), (((2, 3, 4),), ((1,), (2,), (3,), (4,))))
        self.assertEqual((other + 5).levels, (((3,),), ((2,), (4, 5)), ((1,), (2,), (3,), (4,), (5,))))

    def test_a_key_equal_to_a_separator_goes_right(self):
        tree = Tree(SMALL, (((5,),), ((1,), (6,))))
        self.assertEqual((tree + 5).levels, (((5,),), ((1,), (5, 6))))
        self.assertEqual((tree + 4).levels, (((5,),), ((1, 4), (6,))))

    def test_strikes(self):
        tree = Tree(SMALL, (((5,),), ((1,), (5, 6))))
        self.assertEqual((tree - 5).levels, (((5,),), ((1,), (6,))))
        self.assertEqual((tree - 6).levels, (((5,),), ((1,), (5,))))
        self.assertEqual((tree - 1).levels, (((5,),), ((), (5, 6))))
        self.assertEqual((tree - 5 - 6 - 1).levels, (((5,),), ((), ())))

    def test_against_the_model(self):
        for seed, rule in enumerate(RULES):
            rng = random.Random(seed)
            model = Model(rule)
            tree = Tree(rule)
            for _ in range(150):
                key = rng.randrange(-60, 60)
                if key in tree and rng.randrange(3) > 0:
                    model.strike(key)
                    tree = tree - key
                elif key not in tree:
                    model.put(key)
                    tree = tree + key
                self.assertTrue(same(tree.levels, model.levels()))

    def test_greatest_sizes(self):
        for rule in RULES:
            many = 200 if rule.leaf_most == 1 else 300
            keys = list(range(many))
            random.Random(many).shuffle(keys)
            self.assertTrue(same(Tree.grown(rule, *keys).levels, model_levels(rule, keys)))

    def test_no_keys(self):
        tree = Tree.grown(SMALL, 1, 2, 3, 0)
        for value in NO_KEYS:
            for work in (lambda: tree + value, lambda: tree - value, lambda: Tree.grown(SMALL, 7, value, 7)):
                with self.assertRaises(InvalidKey) as caught:
                    work()
                self.assertIs(caught.exception.value, value)

    def test_greatest_keys(self):
        tree = Tree(SMALL) + (BIG - 1) + (1 - BIG)
        self.assertEqual(tree.stored, (1 - BIG, BIG - 1))
        self.assertEqual(len(tree - (1 - BIG)), 1)

    def test_present(self):
        tree = Tree.grown(SMALL, 1, 2, 3)
        for key in (1, 2, 3):
            with self.assertRaises(Present) as caught:
                tree + key
            self.assertTrue(same(caught.exception.key, key))
        with self.assertRaises(Present) as caught:
            Tree.grown(SMALL, 4, 5, 6, 5, None)
        self.assertTrue(same(caught.exception.key, 5))

    def test_no_such_key(self):
        tree = Tree.grown(SMALL, 1, 2, 3) - 3
        for key in (0, 3, 4, -1):
            with self.assertRaises(NoKey) as caught:
                tree - key
            self.assertTrue(same(caught.exception.key, key))

    def test_a_struck_key_is_put_again(self):
        tree = Tree.grown(SMALL, 1, 2, 3)
        self.assertEqual(tree - 3 + 3, tree)

    def test_no_tree_changes(self):
        tree = Tree.grown(SMALL, *range(10))
        levels = tree.levels
        copied = tuple(tuple(tuple(page) for page in level) for level in levels)
        tree + 77
        tree - 5
        list(tree.walk())
        with self.assertRaises(Present):
            tree + 5
        self.assertIs(tree.levels, levels)
        self.assertTrue(same(levels, copied))
        self.assertEqual(tree.stored, tuple(range(10)))


class Members(unittest.TestCase):
    def test_in(self):
        tree = Tree.grown(SMALL, 1, 2, 3, 5) - 3
        self.assertEqual([key for key in range(-1, 8) if key in tree], [1, 2, 5])
        for value in NO_KEYS:
            self.assertIs(value in tree, False)
        self.assertIs(1 in tree, True)

    def test_separators_are_not_members(self):
        tree = Tree(SMALL, (((5,),), ((), ())))
        self.assertIs(5 in tree, False)


class Making(unittest.TestCase):
    def test_grown(self):
        self.assertEqual(Tree.grown(SMALL), Tree(SMALL))
        for rule in RULES:
            for keys in [range(30), range(30, 0, -1), (5, 3, 9, -2, 7)]:
                self.assertTrue(same(Tree.grown(rule, *keys).levels, model_levels(rule, keys)))

    def test_read(self):
        for rule in RULES:
            for levels in sample_levels(rule)[::4]:
                self.assertEqual(Tree.read(rule, show_levels(levels)), Tree(rule, levels))

    def test_read_refuses(self):
        with self.assertRaises(InvalidText) as caught:
            Tree.read(SMALL, "5\n1 | x")
        self.assertEqual((caught.exception.line, caught.exception.word), (1, 2))
        for text in ["5\n1 | 4", "1 2 3", "-\n-"]:
            with self.assertRaises(InvalidTree):
                Tree.read(SMALL, text)
        with self.assertRaises(InvalidText):
            Tree.read(SMALL, None)


class EqualityAndTexts(unittest.TestCase):
    def test_equality(self):
        first = Tree.grown(SMALL, 1, 2)
        self.assertTrue(first == Tree.grown(SMALL, 2, 1))
        self.assertTrue(first == Tree(Rule(2, 1, 2, 2), (((1, 2),),)))
        self.assertFalse(first == Tree(Rule(3, 1, 2, 2), (((1, 2),),)))
        self.assertFalse(first == first + 3)
        self.assertFalse(first + 3 - 3 == first)
        self.assertTrue(first != first + 3)
        for value in ODD_VALUES + [first.levels, SMALL, (SMALL, first.levels)]:
            self.assertFalse(first == value)
            self.assertTrue(first != value)

    def test_str(self):
        self.assertEqual(str(Tree(SMALL)), "-")
        self.assertEqual(str(Tree.grown(SMALL, 1, 2, 3)), "3\n1 2 | 3")
        for levels in sample_levels(SMALL):
            self.assertEqual(str(Tree(SMALL, levels)), show_levels(levels))

    def test_repr(self):
        self.assertEqual(repr(Tree(SMALL)), "Tree(0 keys, 1 levels)")
        self.assertEqual(repr(Tree.grown(SMALL, 1, 2, 3, 4)), "Tree(4 keys, 2 levels)")


if __name__ == "__main__":
    unittest.main()
