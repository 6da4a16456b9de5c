import random
import unittest

from splitscar.errors import NoHistory, NoRoom, TooLong
from splitscar.faults import tree_fault
from splitscar.levels import leaf_for
from splitscar.rooms import fewest_strikes, least_deeds, rooms_of, strike_rows, surely_struck
from splitscar.rules import Rule
from splitscar.shapes import shape_of
from splitscar.strikes import needs
from splitscar.trees import Tree

from tests.helpers import BIG, RULES, same, sample_levels, struck_levels
from tests.strike_models import levels_of_sizes, model_need, model_refusal, model_rows, random_shape
from tests.tree_models import model_separators, reached, replayed

SMALL = Rule(2, 1, 2, 2)


def dense_levels(rule, rng, shape):
    """Levels with this shape whose leaves have little room, so that no deeds of keys may lead to them."""
    sizes, ghosts = shape
    leaves, between, start = [], [], rng.randrange(-9, 9)
    for leaf, size in enumerate(sizes[-1]):
        keys = list(range(start, start + size + rng.choice([0, 0, 0, 1, 2, 9])))
        if leaf > 0:
            between.append(start)
        if leaf in ghosts:
            keys = keys + [start + len(keys)]
            stored = sorted(rng.sample(keys[1:], size))
        elif size > 0:
            stored = [start] + sorted(rng.sample(keys[1:], size - 1))
        else:
            stored = []
        leaves.append(tuple(stored))
        start += max(1, len(keys))
    return levels_of_sizes(tuple(leaves), between, sizes)


def dense_trees():
    for number, rule in enumerate(RULES):
        rng = random.Random(number)
        for many in list(range(1, 13)) * 6:
            shape = random_shape(rule, rng, many)
            if shape is not None:
                yield Tree(rule, dense_levels(rule, rng, shape))


def old_trees():
    for rule in RULES:
        for levels in sample_levels(rule)[::4]:
            yield Tree(rule, levels)


def model_rooms(tree):
    bounds = [1 - BIG] + model_separators(tree.levels) + [BIG]
    return tuple(high - low for low, high in zip(bounds, bounds[1:]))


def surely(tree):
    """The surely struck keys by the words of [14], by the model of needs."""
    shape, rooms = shape_of(tree.levels), model_rooms(tree)
    starts = [1 - BIG] + model_separators(tree.levels)
    found = []
    for leaf, room in enumerate(rooms):
        if room < 99:
            less = rooms[:leaf] + (room - 1,) + rooms[leaf + 1:]
            missing = [key for key in range(starts[leaf], starts[leaf] + room) if key not in tree.levels[-1][leaf]]
            if model_need(tree.rule, shape, less, 0, 0)[0] is None:
                found += missing
                continue
        if leaf in shape[1]:
            found.append(starts[leaf])
    return tuple(found)


class Rooms(unittest.TestCase):
    def test_rooms(self):
        self.assertTrue(same(rooms_of(Tree(SMALL)), (2 * BIG - 1,)))
        tree = Tree(SMALL, (((3, 7),), ((1,), (4,), (7, 8))))
        self.assertTrue(same(rooms_of(tree), (BIG + 2, 4, BIG - 7)))
        self.assertEqual(rooms_of(tree=tree), rooms_of(tree))
        edge = Tree(Rule(1, 1, 2, 2), (((1 - BIG, BIG - 1),), ((), (1 - BIG,), (BIG - 1,))))
        self.assertEqual(rooms_of(edge), (0, 2 * BIG - 2, 1))

    def test_the_keys_that_go_to_a_leaf(self):
        for tree in dense_trees():
            if len(tree.levels[-1]) > 2:
                separators = model_separators(tree.levels)
                goes = [leaf_for(tree.levels, key) for key in range(separators[0], separators[-1])]
                rooms = rooms_of(tree)
                self.assertEqual(sum(rooms), 2 * BIG - 1)
                self.assertEqual([goes.count(leaf) for leaf in range(1, len(rooms) - 1)], list(rooms[1:-1]))


class Fewest(unittest.TestCase):
    def check(self, tree):
        shape, rooms = shape_of(tree.levels), model_rooms(tree)
        self.assertTrue(same(rooms_of(tree), rooms))
        right = model_need(tree.rule, shape, rooms, 0, 0)[0]
        self.assertTrue(same(fewest_strikes(tree), right))
        refusal = model_refusal(tree.rule, shape, rooms)
        self.assertEqual(refusal is not None, right is None)
        if refusal is None:
            rows = strike_rows(tree)
            self.assertTrue(same(rows, model_rows(tree.rule, shape, rooms)))
            self.assertEqual(sum(row[-1] for row in rows), right)
            self.assertEqual(right == 0, tree_fault(tree) is None)
            deeds = least_deeds(tree)
            self.assertEqual(replayed(tree.rule, deeds), tree.levels)
            self.assertEqual(sum(word == "strike" for word, _ in deeds), right)
            self.assertTrue(all(type(deed) is tuple and type(deed[1]) is int for deed in deeds))
            self.assertIs(type(deeds), tuple)
            self.assertTrue(same(surely_struck(tree), surely(tree)))
            # What is surely struck is struck by these deeds, too.
            self.assertTrue({key for word, key in deeds if word == "strike"} >= set(surely_struck(tree)))
            return "history"
        for work in (strike_rows, least_deeds, surely_struck):
            with self.assertRaises((NoRoom, NoHistory)) as caught:
                work(tree)
            error = caught.exception
            found = ("room", error.leaf) if type(error) is NoRoom else ("fault", error.fault)
            self.assertTrue(same(found, refusal))
        return refusal[0]

    def test_trees_with_a_history(self):
        for tree in old_trees():
            self.assertEqual(self.check(tree), "history")

    def test_any_levels(self):
        met = {"history": 0, "room": 0, "fault": 0}
        more = 0
        for tree in dense_trees():
            kind = self.check(tree)
            met[kind] += 1
            if kind == "history":
                more += len(surely_struck(tree)) > len(shape_of(tree.levels)[1])
        self.assertGreater(min(met.values()), 50)
        self.assertGreater(more, 5)

    def test_small_trees(self):
        self.assertTrue(same(fewest_strikes(Tree(SMALL)), 0))
        self.assertTrue(same(strike_rows(Tree(SMALL)), ()))
        self.assertTrue(same(least_deeds(Tree(SMALL)), ()))
        self.assertTrue(same(surely_struck(Tree(SMALL)), ()))
        tree = Tree.grown(SMALL, 1, 2, 3) - 3
        self.assertEqual(fewest_strikes(tree=tree), 1)
        self.assertEqual(strike_rows(tree=tree), (("leaf", 1, 1),))
        self.assertEqual(surely_struck(tree=tree), (3,))
        deeds = least_deeds(tree=tree)
        self.assertEqual(sorted(deeds), [("put", 1), ("put", 2), ("put", 3), ("strike", 3)])

    def test_a_full_leaf_with_a_ghost(self):
        rule = Rule(3, 2, 3, 2)
        tree = Tree(rule, (((10,),), ((1, 2, 3), (11, 12, 13, 14))))
        self.assertEqual(fewest_strikes(tree), 1)
        deeds = least_deeds(tree)
        self.assertEqual(replayed(rule, deeds), tree.levels)
        self.assertEqual([deed for deed in deeds if deed[0] == "strike"], [("strike", 10)])

    def test_no_room(self):
        rule = Rule(2, 2, 2, 2)
        tree = Tree(rule, (((5, 6),), ((1, 2), (5,), (6, 7))))
        for work in (strike_rows, least_deeds, surely_struck):
            with self.assertRaises(NoRoom) as caught:
                work(tree)
            self.assertTrue(same(caught.exception.leaf, 1))
        self.assertIsNone(fewest_strikes(tree))

    def test_no_room_comes_before_no_history(self):
        rule = Rule(2, 2, 4, 3)
        leaves = ((1, 2), (10,), (20,), (30,), (40, 41), (50, 51), (60,))
        tree = Tree(rule, (((40,),), ((10, 20, 30), (50, 60)), leaves))
        self.assertEqual(fewest_strikes(tree), 4)
        tree = Tree(rule, (((30,),), ((10, 20), (40, 50, 60)), leaves))
        with self.assertRaises(NoHistory) as caught:
            strike_rows(tree)
        self.assertTrue(same(caught.exception.fault, (1, 0, "edge")))
        close = ((1, 2), (10,), (20,), (30,), (31, 32), (50, 51), (60,))
        tree = Tree(rule, (((30,),), ((10, 20), (31, 50, 60)), close))
        with self.assertRaises(NoRoom) as caught:
            strike_rows(tree)
        self.assertEqual(caught.exception.leaf, 3)

    def test_a_lead_that_cannot_become_ripe(self):
        rule = Rule(2, 1, 2, 2)
        leaves = ((1, 2), (5,), (7,), (8,), (9,))
        tree = Tree(rule, (((7,),), ((5,), (8, 9)), leaves))
        with self.assertRaises(NoHistory) as caught:
            strike_rows(tree)
        self.assertTrue(same(caught.exception.fault, (1, 1, "lead")))
        wide = Tree(rule, (((7,),), ((5,), (8, 10)), ((1, 2), (5,), (7,), (8,), (10,))))
        self.assertEqual(strike_rows(wide), (("lead", 1, 1, 1),))
        # Only the leaf of 8 and 9 has room for two keys, so 9 was surely struck.
        self.assertEqual(surely_struck(wide), (9,))


    def test_a_lead_of_a_lead(self):
        # The second page of the upper level was split, so its first or second page was ripe, and so a leaf of that one.
        leaves = ((1, 2), (3,), (4,), (5,), (10,), (12,), (13,), (14,), (15,), (16,))
        levels = (((10,),), ((4,), (13, 15)), ((3,), (5,), (12,), (14,), (16,)), leaves)
        tree = Tree(Rule(2, 1, 2, 2), levels)
        self.assertEqual(strike_rows(tree), (("lead", 1, 1, 1),))
        self.assertEqual(surely_struck(tree), (11,))
        self.assertEqual(surely(tree), (11,))
        self.assertEqual(replayed(tree.rule, least_deeds(tree)), levels)


class Bounds(unittest.TestCase):
    def test_the_very_bound(self):
        rule = Rule(1, 1, 4, 4)
        grown = Tree.grown(rule, *range(0, 1230, 6))
        self.assertEqual(len(grown), 205)
        met = set()
        # A struck key takes one key away and gives a strike and, but for the first leaf, a ghost.
        for first in (grown, grown - 0):
            tree = first
            for key in grown.stored[:0:-1]:
                tree = tree - key
                total = len(tree) + len(shape_of(tree.levels)[1]) + 2 * fewest_strikes(tree)
                met.add(total)
                if 595 <= total <= 600:
                    deeds = least_deeds(tree)
                    self.assertEqual(replayed(rule, deeds), tree.levels)
                    self.assertEqual(len(deeds), len(tree) + 2 * fewest_strikes(tree))
                if total > 600:
                    with self.assertRaises(TooLong) as caught:
                        least_deeds(tree)
                    self.assertTrue(same(caught.exception.limit, 600))
                    self.assertEqual(sum(row[-1] for row in strike_rows(tree)), fewest_strikes(tree))
        self.assertTrue(met >= {598, 599, 600, 601, 602})

    def test_no_history_comes_before_too_long(self):
        rule = Rule(1, 1, 4, 3)
        tree = Tree.grown(rule, *range(0, 1230, 6))
        for key in tree.stored:
            tree = tree - key
        with self.assertRaises(TooLong):
            least_deeds(tree)
        # The last page of the second lowest level gets fewer pages than any split leaves.
        levels = tree.levels
        row = levels[-2]
        self.assertGreaterEqual(len(row[-1]), 2)
        fewer = levels[:-2] + (row[:-1] + (row[-1][:1],), levels[-1][:len(levels[-1]) + 1 - len(row[-1])])
        with self.assertRaises(NoHistory) as caught:
            least_deeds(Tree(rule, fewer))
        self.assertEqual(caught.exception.fault, (len(levels) - 2, len(row) - 1, "few"))

    def test_larger_trees(self):
        for rule in RULES:
            for strikes in (1, 20, 80):
                tree = Tree(rule, struck_levels(rule, 5, 300, strikes))
                total = len(tree) + len(shape_of(tree.levels)[1]) + 2 * fewest_strikes(tree)
                self.assertEqual(sum(row[-1] for row in strike_rows(tree)), fewest_strikes(tree))
                self.assertLessEqual(fewest_strikes(tree), strikes)
                if total <= 600:
                    deeds = least_deeds(tree)
                    self.assertEqual(replayed(rule, deeds), tree.levels)
                    self.assertLessEqual(len(deeds), 600)


class Searched(unittest.TestCase):
    """What the needs tell, held against all deeds of a few keys, which are as good as any others."""

    def universe(self, rule, many, strikes, kept=None):
        return reached(rule, list(range(many)), strikes, kept)

    def rooms_in(self, levels, many):
        bounds = [0] + model_separators(levels) + [many]
        return tuple(high - low for low, high in zip(bounds, bounds[1:]))

    def test_fewest(self):
        for numbers in [(1, 1, 2, 2), (2, 1, 2, 2), (1, 2, 2, 2), (2, 2, 2, 2)]:
            rule = Rule(*numbers)
            many = 6 if numbers == (1, 1, 2, 2) else 7
            cost = self.universe(rule, many, 9)
            self.assertGreater(len(cost), 100)
            for levels, strikes in cost.items():
                rooms = self.rooms_in(levels, many)
                need = needs(rule, shape_of(levels), rooms)[0][0][0]
                self.assertEqual(need, strikes, (numbers, levels))
                # Further keys may help, but never harm.
                self.assertLessEqual(fewest_strikes(Tree(rule, levels)), strikes)
                self.assertEqual(strikes == 0, tree_fault(Tree(rule, levels)) is None)

    def test_levels_that_are_not_reached(self):
        for numbers in [(2, 1, 2, 2), (1, 2, 2, 2), (2, 2, 2, 2)]:
            rule, many = Rule(*numbers), 7
            cost = self.universe(rule, many, 9)
            rng = random.Random(1)
            met = {True: 0, False: 0}
            for _ in range(4000):
                shape = random_shape(rule, rng, rng.randrange(1, 6))
                if shape is None:
                    continue
                levels = within(rule, rng, shape, many)
                if levels is not None:
                    need = needs(rule, shape_of(levels), self.rooms_in(levels, many))[0][0][0]
                    self.assertEqual(need, cost.get(levels))
                    met[levels in cost] += 1
            self.assertGreater(min(met.values()), 20)

    def test_surely_struck(self):
        others = 0
        for numbers in [(2, 1, 2, 2), (1, 2, 2, 2), (2, 2, 2, 2), (3, 2, 2, 2)]:
            rule, many = Rule(*numbers), 7
            every = self.universe(rule, many, 9)
            spared = {key: self.universe(rule, many, 9, kept=key) for key in range(many)}
            for levels in every:
                rooms = self.rooms_in(levels, many)
                tree = Tree(rule, levels)
                sure = surely_struck(tree)
                for key in range(many):
                    leaf = leaf_for(levels, key)
                    # The first and the last leaf have more room than these few keys.
                    if 0 < leaf < len(rooms) - 1 and min(rooms[0], rooms[-1]) >= rule.leaf_long:
                        self.assertEqual(key in sure, levels not in spared[key], (numbers, levels, key))
                        others += key in sure and key not in model_separators(levels)
        self.assertGreater(others, 50)

    def test_puts_and_strikes(self):
        for rule in RULES:
            rng = random.Random(2)
            tree = Tree(rule)
            keys = list(range(40))
            last = 0
            for _ in range(120):
                key = rng.choice(keys)
                if key in tree:
                    tree = tree - key
                    self.assertIn(fewest_strikes(tree) - last, (0, 1))
                else:
                    tree = tree + key
                    self.assertLessEqual(fewest_strikes(tree), last)
                last = fewest_strikes(tree)


def within(rule, rng, shape, many):
    """Levels with these sizes, of keys and separators below `many`, or None."""
    leaves = shape[0][-1]
    if len(leaves) > many:
        return None
    between = sorted(rng.sample(range(1, many), len(leaves) - 1))
    bounds = [0] + between + [many]
    row = []
    for size, low, high in zip(leaves, bounds, bounds[1:]):
        if size > high - low:
            return None
        row.append(tuple(sorted(rng.sample(range(low, high), size))))
    return levels_of_sizes(tuple(row), between, shape[0])


if __name__ == "__main__":
    unittest.main()
