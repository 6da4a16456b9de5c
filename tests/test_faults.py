import unittest

from splitscar.faults import fault, faults, shows_fault, tree_fault
from splitscar.rules import Rule
from splitscar.shapes import is_shape, shape_of
from splitscar.trees import Tree

from tests.helpers import ODD_VALUES, RULES, same, sample_levels
from tests.shape_models import levels_with, model_faults

LEFT = Rule(3, 2, 4, 3)
RIGHT = Rule(2, 3, 3, 4)


def no_ghosts(*sizes):
    return tuple(sizes), ()


class EachWord(unittest.TestCase):
    def check(self, rule, shape, *found):
        self.assertTrue(is_shape(rule, shape))
        self.assertTrue(same(list(faults(rule, shape)), list(found)), list(faults(rule, shape)))
        self.assertTrue(same(fault(rule, shape), found[0] if found else None))
        self.assertTrue(same(tree_fault(Tree(rule, levels_with(shape))), found[0] if found else None))

    def test_none(self):
        self.check(LEFT, no_ghosts((0,)))
        self.check(LEFT, no_ghosts((2,), (3, 2)))
        self.check(RIGHT, no_ghosts((2,), (2, 3)))
        self.check(LEFT, no_ghosts((2,), (4, 3), (3, 2, 2, 2, 2, 2, 2)))
        self.check(RIGHT, no_ghosts((2,), (3, 4), (2, 2, 2, 2, 2, 2, 3)))

    def test_few(self):
        self.check(LEFT, no_ghosts((2,), (3, 1)), (1, 1, "few"))
        self.check(RIGHT, no_ghosts((2,), (1, 3)), (1, 0, "few"))
        self.check(LEFT, no_ghosts((2,), (1, 2)), (1, 0, "few"))
        self.check(LEFT, no_ghosts((2,), (4, 2), (3, 2, 2, 2, 3, 2)), (1, 1, "few"))

    def test_the_root_may_be_small(self):
        for size in range(5):
            self.check(LEFT, no_ghosts((size,)))

    def test_edge(self):
        self.check(LEFT, no_ghosts((2,), (2, 2)), (1, 0, "edge"))
        self.check(RIGHT, no_ghosts((2,), (2, 2)), (1, 1, "edge"))
        self.check(LEFT, no_ghosts((2,), (3, 3), (3, 2, 2, 2, 2, 2)), (1, 0, "edge"))
        self.check(RIGHT, no_ghosts((2,), (3, 3), (2, 2, 2, 2, 2, 3)), (1, 1, "edge"))

    def test_lead(self):
        self.check(LEFT, no_ghosts((2,), (4, 4), (3, 2, 2, 2, 2, 2, 2, 3)), (1, 1, "lead"))
        self.check(LEFT, no_ghosts((2,), (4, 4), (3, 2, 2, 2, 2, 2, 3, 2)))
        self.check(RIGHT, no_ghosts((2,), (4, 4), (3, 2, 2, 2, 2, 2, 2, 3)), (1, 0, "lead"))
        self.check(RIGHT, no_ghosts((2,), (4, 4), (2, 3, 2, 2, 2, 2, 2, 3)))
        self.check(LEFT, no_ghosts((2,), (4, 2), (3, 2, 2, 2, 2, 2)), (1, 1, "few"), (1, 1, "lead"))

    def test_ghost(self):
        self.check(LEFT, (((2,), (3, 2)), (1,)), (1, 1, "ghost"))
        self.check(LEFT, (((3,), (3, 2, 2)), (1, 2)), (1, 1, "ghost"), (1, 2, "ghost"))

    def test_several_words_in_order(self):
        self.check(LEFT, (((2,), (2, 1)), (1,)), (1, 0, "edge"), (1, 1, "few"), (1, 1, "ghost"))
        self.check(RIGHT, (((2,), (2, 2)), (1,)), (1, 1, "edge"), (1, 1, "ghost"))
        self.check(
            LEFT, (((2,), (3, 2), (1, 2, 2, 0, 2)), (2, 3)),
            (1, 0, "edge"), (1, 1, "few"), (1, 1, "lead"), (2, 0, "few"), (2, 2, "ghost"), (2, 3, "few"), (2, 3, "ghost"),
        )

    def test_a_ripe_page_below_a_ripe_page(self):
        rule = Rule(2, 1, 3, 2)
        leaves = [2, 1, 1, 1, 1, 2, 1, 1, 2, 1, 1, 1, 2, 2]
        sizes = no_ghosts((2,), (3, 2), (3, 2, 2, 3, 4), tuple(leaves))
        self.check(rule, sizes, (2, 4, "lead"))
        leaves[11] = 2
        self.check(rule, no_ghosts((2,), (3, 2), (3, 2, 2, 3, 4), tuple(leaves)))


class AllFaults(unittest.TestCase):
    def test_against_the_model(self):
        seen = {}
        for rule in RULES:
            for levels in sample_levels(rule):
                shape = shape_of(levels)
                found = model_faults(rule, shape)
                self.assertTrue(same(list(faults(rule, shape)), found))
                self.assertTrue(same(fault(rule, shape), found[0] if found else None))
                self.assertTrue(same(tree_fault(Tree(rule, levels)), found[0] if found else None))
                for _, _, word in found:
                    seen[word] = seen.get(word, 0) + 1
        self.assertEqual(sorted(seen), ["edge", "few", "ghost", "lead"])

    def test_by_name_and_by_turns(self):
        shape = (((2,), (2, 1)), (1,))
        first, second = faults(rule=LEFT, shape=shape), faults(LEFT, shape)
        self.assertEqual([next(first), next(second), next(first)], [(1, 0, "edge"), (1, 0, "edge"), (1, 1, "few")])
        self.assertEqual(fault(rule=LEFT, shape=shape), (1, 0, "edge"))
        self.assertIsNone(tree_fault(tree=Tree(LEFT)))
        self.assertIs(shows_fault(rule=LEFT, shape=shape, value=(1, 0, "edge")), True)


class ShowsFault(unittest.TestCase):
    def test_all_triples(self):
        for rule in RULES[:8]:
            for levels in sample_levels(rule)[:20]:
                shape = shape_of(levels)
                found = model_faults(rule, shape)
                for level in range(-1, len(levels) + 1):
                    for page in range(-1, len(levels[-1]) + 1):
                        for word in ("few", "edge", "lead", "ghost", "", "Few"):
                            value = (level, page, word)
                            self.assertIs(shows_fault(rule, shape, value), value in found)

    def test_other_values(self):
        shape = (((2,), (2, 1)), (1,))
        self.assertIs(shows_fault(LEFT, shape, (1, 1, "ghost")), True)
        for value in ODD_VALUES + [
            [1, 1, "ghost"], (1, 1), (1, 1, "ghost", 0), (True, 1, "ghost"), (1, True, "ghost"), (1, False, "edge"),
            (1, 1, ["ghost"]), (1, 1, None), ("1", 1, "ghost"), (1, None, "ghost"), ((1, 1, "ghost"),), {1: 1},
            (1, 1, ("ghost",)), ([1], 1, "ghost"), (1, {}, "ghost"), "few",
        ]:
            self.assertIs(shows_fault(LEFT, shape, value), False, value)


if __name__ == "__main__":
    unittest.main()
