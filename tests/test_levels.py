import random
import unittest

from splitscar.errors import InvalidKey, InvalidTree
from splitscar.levels import ghosts_of, is_levels, keys_of, leaf_for, separators_of, spot_of
from splitscar.rules import Rule
from splitscar.trees import Tree

from tests.helpers import (
    BIG, NO_KEYS, ODD_VALUES, RULES, model_is_levels, random_levels, same, sample_levels, sequence_of,
)

SMALL = Rule(2, 1, 2, 2)


def over_leaves(separators, *leaves):
    """Levels with a root over leaves."""
    return ((separators,), leaves)


def changed(levels, rng):
    """Levels with one small change that may make them none."""
    rows = [[list(page) for page in level] for level in levels]
    level = rng.randrange(len(rows))
    page = rng.randrange(len(rows[level]))
    integers = rows[level][page]
    word = rng.choice(["move", "drop", "more", "page", "lose", "copy", "level", "swap", "far"])
    if word == "move" and integers:
        integers[rng.randrange(len(integers))] += rng.choice([-3, -1, 1, 3])
    elif word == "drop" and integers:
        integers.pop(rng.randrange(len(integers)))
    elif word == "more":
        integers.insert(rng.randrange(len(integers) + 1), rng.randrange(-60, 60))
    elif word == "page":
        rows[level].insert(page, [])
    elif word == "lose":
        rows[level].pop(page)
    elif word == "copy" and integers:
        integers.append(integers[-1] + 1)
    elif word == "level":
        rows.insert(level, [[3]])
    elif word == "swap" and integers:
        integers.reverse()
    elif word == "far" and integers:
        integers[-1] = rng.choice([BIG, BIG - 1, -BIG])
    return tuple(tuple(tuple(page) for page in level) for level in rows)


class IsLevels(unittest.TestCase):
    def check(self, rule, value, answer):
        self.assertIs(is_levels(rule, value), answer, (rule, value))
        if answer:
            self.assertEqual(Tree(rule, value).levels, value)
        else:
            with self.assertRaises(InvalidTree):
                Tree(rule, value)

    def test_levels_of_all_sizes(self):
        for rule in RULES:
            for levels in sample_levels(rule):
                self.check(rule, levels, True)

    def test_small_changes(self):
        rng = random.Random(5)
        answers = {True: 0, False: 0}
        for rule in RULES:
            for levels in sample_levels(rule)[:30]:
                value = changed(levels, rng)
                answer = model_is_levels(rule, value)
                answers[answer] += 1
                self.check(rule, value, answer)
        self.assertGreater(min(answers.values()), 50)

    def test_one_leaf(self):
        self.check(SMALL, (((),),), True)
        self.check(SMALL, (((1, 2),),), True)
        self.check(SMALL, (((1, 2, 3),),), False)
        self.check(SMALL, (((2, 1),),), False)
        self.check(SMALL, (((1, 1),),), False)
        self.check(Rule(1, 1, 2, 2), (((1,),),), True)
        self.check(Rule(1, 1, 2, 2), (((1, 2),),), False)
        self.check(Rule(16, 1, 2, 2), ((tuple(range(16)),),), True)
        self.check(Rule(16, 1, 2, 2), ((tuple(range(17)),),), False)

    def test_too_few_and_too_many_pages(self):
        self.check(SMALL, (), False)
        self.check(SMALL, ((),), False)
        self.check(SMALL, (((),), ((),)), False)
        self.check(SMALL, (((), ()),), False)
        self.check(SMALL, (((1,), (2,)),), False)
        self.check(SMALL, (((5,),), ((1,), (5,))), True)
        self.check(SMALL, (((5,),), ((1,),)), False)
        self.check(SMALL, (((5,),), ((1,), (5,), (6,))), False)
        self.check(SMALL, (((5, 7),), ((1,), (5,), (7,))), True)
        self.check(SMALL, (((5, 7, 9),), ((1,), (5,), (7,), (9,))), False)
        self.check(Rule(2, 1, 3, 2), (((5, 7, 9),), ((1,), (5,), (7,), (9,))), True)
        self.check(SMALL, (((5,),), ((3,), (7,)), ((1,), (3,), (5,), (7,))), True)
        self.check(SMALL, (((5,),), ((3,), ()), ((1,), (3,), (5,))), False)
        self.check(SMALL, (((5,),), ((3,),), ((1,), (3,), (5,))), False)
        self.check(SMALL, (((5,),), ((1, 2, 3), (5,))), False)
        self.check(SMALL, (((5,),), ((1,), (5, 6, 7))), False)

    def test_order(self):
        self.check(SMALL, over_leaves((5,), (1, 4), (5, 6)), True)
        self.check(SMALL, over_leaves((5,), (1, 4), (6, 7)), True)
        self.check(SMALL, over_leaves((5,), (1, 5), (6, 7)), False)
        self.check(SMALL, over_leaves((5,), (1, 6), (7,)), False)
        self.check(SMALL, over_leaves((5,), (1,), (4, 7)), False)
        self.check(SMALL, over_leaves((5,), (1,), (5, 5)), False)
        self.check(SMALL, over_leaves((5, 5), (1,), (), (6,)), False)
        self.check(SMALL, over_leaves((6, 5), (1,), (), (6,)), False)
        self.check(SMALL, over_leaves((5, 6), (1,), (), (6,)), True)
        self.check(SMALL, over_leaves((5, 6), (), (), ()), True)
        self.check(SMALL, over_leaves((5, 6), (), (5,), (6,)), True)
        self.check(SMALL, over_leaves((5, 6), (), (6,), ()), False)
        self.check(SMALL, over_leaves((5, 7), (), (6, 7), ()), False)

    def test_order_on_three_levels(self):
        for leaves, answer in [
            (((1,), (3,), (5,), (7,)), True), (((1,), (4,), (6,), (8,)), True), (((), (), (), ()), True),
            (((1,), (5,), (6,), (7,)), False), (((1,), (3,), (4,), (7,)), False), (((3,), (4,), (5,), (7,)), False),
        ]:
            self.check(SMALL, (((5,),), ((3,), (7,)), leaves), answer)
        self.check(SMALL, (((5,),), ((5,), (7,)), ((1,), (), (5,), (7,))), False)
        self.check(SMALL, (((5,),), ((3,), (5,)), ((1,), (3,), (), (7,))), False)
        self.check(SMALL, (((5,),), ((6,), (7,)), ((1,), (), (), (7,))), False)

    def test_digits(self):
        self.check(SMALL, (((1 - BIG, BIG - 1),),), True)
        self.check(SMALL, (((1, BIG),),), False)
        self.check(SMALL, (((-BIG, 1),),), False)
        self.check(SMALL, over_leaves((BIG - 1,), (), ()), True)
        self.check(SMALL, over_leaves((BIG,), (), ()), False)

    def test_kinds(self):
        self.check(SMALL, ([()],), False)
        self.check(SMALL, [((),)], False)
        self.check(SMALL, (([],),), False)
        self.check(SMALL, (((1, True),),), False)
        self.check(SMALL, (((False, 1),),), False)
        self.check(SMALL, (((True,),),), False)
        self.check(SMALL, over_leaves((True,), (0,), (1,)), False)
        self.check(SMALL, over_leaves([5], (0,), (5,)), False)
        self.check(SMALL, (((5,),), [(1,), (5,)]), False)
        self.check(SMALL, ((("1",),),), False)
        self.check(SMALL, (((None,),),), False)
        self.check(SMALL, ((5,), (1, 2)), False)
        self.check(SMALL, (((),), "ab"), False)
        self.check(SMALL, ("a",), False)
        for value in ODD_VALUES:
            self.check(SMALL, value, False if not same(value, (((),),)) else True)

    def test_large_values(self):
        self.check(SMALL, ((tuple(range(5000)),),), False)
        self.check(SMALL, tuple(((),) for _ in range(2000)), False)
        self.check(SMALL, tuple(((1,),) for _ in range(1500)), False)


class KeysAndSeparators(unittest.TestCase):
    def test_against_the_sequence(self):
        for rule in RULES:
            for levels in sample_levels(rule):
                row = sequence_of(levels)
                keys = tuple(integer for integer, splits in row if not splits)
                separators = tuple(integer for integer, splits in row if splits)
                self.assertTrue(same(keys_of(levels), keys))
                self.assertTrue(same(separators_of(levels), separators))

    def test_by_name(self):
        levels = over_leaves((5,), (1, 2), (6,))
        self.assertEqual(keys_of(levels=levels), (1, 2, 6))
        self.assertEqual(separators_of(levels=levels), (5,))
        self.assertEqual(ghosts_of(levels=levels), (1,))
        self.assertEqual(spot_of(levels=levels, key=6), (1, 0))
        self.assertEqual(leaf_for(levels=levels, key=3), 0)
        self.assertIs(is_levels(rule=SMALL, value=levels), True)

    def test_empty(self):
        self.assertTrue(same(keys_of((((),),)), ()))
        self.assertTrue(same(separators_of((((),),)), ()))
        self.assertTrue(same(ghosts_of((((),),)), ()))


def walked_leaf(levels, key):
    """The leaf to which a key goes, page by page as [6] says."""
    at = 0
    for pages in levels[:-1]:
        index = len([separator for separator in pages[at] if not separator > key])
        at = sum(len(page) + 1 for page in pages[:at]) + index
    return at


class Spots(unittest.TestCase):
    def test_all_keys_around(self):
        for rule in RULES:
            for levels in sample_levels(rule)[::3]:
                around = set()
                for integer, _ in sequence_of(levels):
                    around.update([integer - 1, integer, integer + 1])
                for key in sorted(around):
                    leaf = walked_leaf(levels, key)
                    self.assertTrue(same(leaf_for(levels, key), leaf))
                    spots = [
                        (number, keys.index(key)) for number, keys in enumerate(levels[-1]) if key in keys
                    ]
                    self.assertTrue(same(spot_of(levels, key), spots[0] if spots else None))

    def test_edges(self):
        levels = over_leaves((5, 8), (1,), (), (8, 9))
        self.assertEqual([leaf_for(levels, key) for key in [-BIG + 1, 4, 5, 7, 8, BIG - 1]], [0, 0, 1, 1, 2, 2])
        self.assertEqual([spot_of(levels, key) for key in [1, 5, 8, 9]], [(0, 0), None, (2, 0), (2, 1)])

    def test_other_values(self):
        levels = over_leaves((1,), (0,), (1,))
        for value in NO_KEYS:
            self.assertIsNone(spot_of(levels, value))
            with self.assertRaises(InvalidKey) as caught:
                leaf_for(levels, value)
            self.assertIs(caught.exception.value, value)


class Ghosts(unittest.TestCase):
    def test_some(self):
        self.assertTrue(same(ghosts_of(over_leaves((5, 8), (), (5,), (8, 9))), ()))
        self.assertTrue(same(ghosts_of(over_leaves((5, 8), (1,), (6,), (8, 9))), (1,)))
        self.assertTrue(same(ghosts_of(over_leaves((5, 8), (1,), (), (9,))), (1, 2)))
        deep = (((5,),), ((3,), (7,)), ((1,), (4,), (5,), ()))
        self.assertTrue(same(ghosts_of(deep), (1, 3)))

    def test_against_the_sequence(self):
        for rule in RULES:
            for levels in sample_levels(rule):
                separators = [integer for integer, splits in sequence_of(levels) if splits]
                leaves = levels[-1]
                ghosts = [at for at in range(1, len(leaves)) if separators[at - 1] not in leaves[at]]
                self.assertTrue(same(ghosts_of(levels), tuple(ghosts)))

    def test_puts_make_none(self):
        for rule in RULES:
            self.assertEqual(ghosts_of(random_levels(rule, 77, 60)), ())


if __name__ == "__main__":
    unittest.main()
