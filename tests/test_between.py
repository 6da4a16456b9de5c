import itertools
import random
import unittest

from splitscar.before import before
from splitscar.between import count_ways, way_between
from splitscar.betweencheck import shows_way
from splitscar.errors import TooLarge, TooMany
from splitscar.rules import Rule
from splitscar.trees import Tree

from tests.helpers import ODD_VALUES, RULES, model_levels, random_levels, same, struck_levels
from tests.tree_models import model_back, put_levels

SMALL = Rule(2, 1, 2, 2)


def all_ways(tree, later):
    """The set of all orders of the new keys whose puts lead to the later tree."""
    def more(levels, way, rest):
        if not rest and levels == later.levels:
            yield way
        for key in rest:
            yield from more(put_levels(tree.rule, levels, key), way + (key,), rest - {key})

    return set(more(tree.levels, (), set(later.stored) - set(tree.stored)))


def back_by_before(tree, later):
    """The levels to which going back leads, by `before`, which other tests hold against a search."""
    met, row = {later.levels}, [later]
    while row:
        last = row.pop()
        for key in set(last.stored) - set(tree.stored):
            for earlier in before(last, key):
                if earlier.levels not in met:
                    met.add(earlier.levels)
                    row.append(earlier)
    return met


def tree_pairs():
    """Pairs of trees by several rules, the later one with up to five keys more, reached by puts or in other ways."""
    for number, rule in enumerate(RULES[:15]):
        rng = random.Random(number)
        for many in range(0, 8, 2 + number % 2):
            for new in range(0, 4 + (many < 4)):
                tree = Tree(rule, rng.choice([random_levels(rule, many, many), struck_levels(rule, many, many + 3, 3)]))
                keys = rng.sample([key for key in range(-20, 20) if key not in tree], new)
                later = tree
                for key in keys:
                    later = later + key
                yield tree, later
                if new > 0:
                    # A strike and a put again leave another shape in some trees, or none at all.
                    spare = next(key for key in range(40) if key not in later)
                    yield tree, later + spare - spare
                    yield tree, Tree(rule, model_levels(rule, sorted(later.stored)))


class Ways(unittest.TestCase):
    def test_against_all_orders(self):
        met = {"way": 0, "never": 0}
        for tree, later in tree_pairs():
            ways = all_ways(tree, later)
            back = model_back(tree.rule, tree.levels, later.levels)
            word, told = way_between(tree, later, limit=5000)
            met[word] += 1
            self.assertTrue(same(count_ways(tree, later, limit=5000), len(ways)))
            if ways:
                self.assertEqual(word, "way")
                self.assertIs(type(told), tuple)
                self.assertIn(told, ways)
            else:
                self.assertTrue(same((word, told), ("never", tuple(sorted(back)))))
            self.assertIs(shows_way(tree, later, (word, told)), True)
            self.assertEqual(tree.levels in back, bool(ways))
            many = len(back)
            self.assertEqual(way_between(tree, later, limit=many), (word, told))
            self.assertEqual(count_ways(tree, later, limit=many), len(ways))
            for limit in {0, many - 1, many // 2}:
                for work in (way_between, count_ways):
                    with self.assertRaises(TooMany) as caught:
                        work(tree, later, limit=limit)
                    self.assertTrue(same(caught.exception.limit, limit))
        self.assertGreater(min(met.values()), 30)

    def test_the_same_tree(self):
        for tree in [Tree(SMALL), Tree.grown(SMALL, *range(9)) - 3]:
            self.assertTrue(same(way_between(tree, tree), ("way", ())))
            self.assertTrue(same(count_ways(tree, tree), 1))
            self.assertEqual(way_between(tree, tree, limit=1), ("way", ()))
            with self.assertRaises(TooMany):
                way_between(tree, tree, limit=0)

    def test_the_same_keys_in_other_levels(self):
        tree = Tree.grown(SMALL, 1, 2, 3, 4)
        later = Tree.grown(SMALL, 4, 3, 2, 1)
        self.assertNotEqual(tree.levels, later.levels)
        self.assertEqual(way_between(tree, later), ("never", (later.levels,)))
        self.assertEqual(count_ways(tree, later), 0)

    def test_a_first_tree_with_more_keys(self):
        tree = Tree.grown(SMALL, 1, 2, 3, 4)
        self.assertEqual(way_between(tree, tree - 4), ("never", ((tree - 4).levels,)))
        later = tree - 4 + 9
        self.assertEqual(way_between(tree, later), ("never", tuple(sorted([later.levels, (later - 9).levels]))))
        self.assertEqual(count_ways(tree, later), 0)
        self.assertEqual(way_between(tree, Tree(SMALL)), ("never", ((((),),),)))

    def test_six_new_keys(self):
        rng = random.Random(2)
        for rule in [SMALL, Rule(2, 3, 2, 4)]:
            tree = Tree.grown(rule, *rng.sample(range(0, 2000, 2), 290))
            later = tree
            for key in rng.sample(range(1, 2000, 2), 6):
                later = later + key
            word, told = way_between(tree, later, limit=5000)
            self.assertEqual(word, "way")
            self.assertTrue(shows_way(tree, later, (word, told)))
            self.assertEqual(count_ways(tree, later, limit=5000), len(all_ways(tree, later)))

    def test_seven_new_keys(self):
        tree = Tree(SMALL)
        later = Tree.grown(SMALL, *range(7))
        for limit in [0, 1, 500, 5000]:
            for work in (way_between, count_ways):
                with self.assertRaises(TooLarge) as caught:
                    work(tree, later, limit=limit)
                self.assertTrue(same(caught.exception.limit, 6))
        with self.assertRaises(TooLarge):
            way_between(tree, later)
        self.assertEqual(way_between(Tree.grown(SMALL, 0), later, limit=5000)[0], "way")

    def test_the_limit_that_is_not_told(self):
        rule = Rule(1, 1, 2, 2)
        found = set()
        for seed in range(12):
            later = Tree.grown(rule, *random.Random(seed).sample(range(7), 7))
            first = Tree(rule, (((3,),),))
            many = len(back_by_before(first, later))
            found.add(many > 500)
            for work in (way_between, count_ways):
                if many > 500:
                    with self.assertRaises(TooMany) as caught:
                        work(first, later)
                    self.assertEqual(caught.exception.limit, 500)
                else:
                    self.assertEqual(work(first, later), work(first, later, limit=500))
        self.assertEqual(found, {False, True})

    def test_by_name(self):
        tree = Tree.grown(SMALL, 1, 2)
        self.assertEqual(way_between(later=tree + 3, tree=tree), ("way", (3,)))
        self.assertEqual(count_ways(limit=10, later=tree + 3, tree=tree), 1)
        self.assertTrue(shows_way(value=("way", (3,)), later=tree + 3, tree=tree))
        with self.assertRaises(TypeError):
            way_between(tree, tree + 3, 10)
        with self.assertRaises(TypeError):
            count_ways(tree, tree + 3, 10)


class Shown(unittest.TestCase):
    def setUp(self):
        self.tree = Tree.grown(SMALL, 1, 2, 3)
        self.later = self.tree + 9 + 5 + 7
        self.never = Tree.grown(SMALL, 9, 7, 5, 3, 2, 1)
        self.assertEqual(way_between(self.tree, self.never)[0], "never")

    def test_ways(self):
        ways = all_ways(self.tree, self.later)
        self.assertTrue(0 < len(ways) < 6)
        for keys in itertools.permutations([5, 7, 9]):
            self.assertIs(shows_way(self.tree, self.later, ("way", keys)), keys in ways)
        for way in ways:
            for value in [way, ("never", way), ("way", list(way)), ["way", way], ("way", way[:2]), ("way", way, ()),
                          ("way", way + (1,)), ("way", way + way[:1]), ("way", way[:2] + (True,)), (way, "way"),
                          ("way", way + (11,)), ("Way", way), (None, way), ("way", None), ("way", {5: 1, 7: 1, 9: 1})]:
                self.assertIs(shows_way(self.tree, self.later, value), False)

    def test_a_way_of_many_keys(self):
        keys = random.Random(1).sample(range(300), 300)
        later = Tree.grown(SMALL, *keys)
        self.assertIs(shows_way(Tree(SMALL), later, ("way", tuple(keys))), True)
        self.assertIs(shows_way(Tree(SMALL), later, ("way", tuple(sorted(keys)))), False)

    def test_closed_sets(self):
        levels = way_between(self.tree, self.never)[1]
        self.assertIs(shows_way(self.tree, self.never, ("never", levels)), True)
        for at in range(len(levels)):
            self.assertIs(shows_way(self.tree, self.never, ("never", levels[:at] + levels[at + 1:])), False)
        # Other levels may be in the set, too, if those before them are, as far as their key is new.
        for extra in [(((1, 2),),), (((),),), (((2,),), ((1,), (2, 3)))]:
            value = ("never", tuple(sorted(set(levels + (extra,)))))
            self.assertIs(shows_way(self.tree, self.never, value), True)
        new = (((4,),), ((1, 2), (4,)))
        self.assertIs(shows_way(self.tree, self.never, ("never", tuple(sorted(levels + (new,))))), False)
        struck = [earlier.levels for earlier in before(Tree(SMALL, new), 4)]
        value = ("never", tuple(sorted(set(levels + (new, *struck)))))
        self.assertIs(shows_way(self.tree, self.never, value), True)
        value = ("never", tuple(sorted(set(levels + (self.tree.levels,)))))
        self.assertIs(shows_way(self.tree, self.never, value), False)

    def test_wrong_closed_sets(self):
        levels = way_between(self.tree, self.never)[1]
        self.assertGreater(len(levels), 2)
        for value in [
            ("never", levels[::-1]), ("never", levels + levels[-1:]), ("never", list(levels)), ("never", ()),
            ["never", levels], ("way", levels), ("never", levels, ()), ("never", levels + ((((True,),),),)),
            ("never", levels + ((((999,), (5,)),),)), ("never", levels + (None,)), ("never", (((),),)), ("never",), ("Never", levels), (None, levels),
            ("never", (levels,)), ("never", (((((),),)),)), ("never", tuple(list(part) for part in levels)),
        ]:
            self.assertIs(shows_way(self.tree, self.never, value), False)
        # Kinds count as well as values.
        one = Tree(SMALL, (((0, 1),),))
        first = Tree(SMALL, (((0, 2),),))
        right = way_between(first, one)[1]
        self.assertEqual(right, ((((0,),),), (((0, 1),),)))
        self.assertIs(shows_way(first, one, ("never", ((((0,),),), (((0, True),),)))), False)
        self.assertIs(shows_way(first, one, ("never", ((((False,),),), (((0, 1),),)))), False)
        self.assertIs(shows_way(Tree(SMALL), Tree(SMALL) + 1, ("way", (True,))), False)

    def test_a_closed_set_is_none_where_there_is_a_way(self):
        back = tuple(sorted(model_back(SMALL, self.tree.levels, self.later.levels)))
        self.assertIs(shows_way(self.tree, self.later, ("never", back)), False)
        rest = tuple(levels for levels in back if levels != self.tree.levels)
        self.assertIs(shows_way(self.tree, self.later, ("never", rest)), False)

    def test_any_other_value(self):
        for value in ODD_VALUES + [("way", value) for value in ODD_VALUES] + [("never", value) for value in ODD_VALUES]:
            if same(value, ("way", ())):
                continue
            self.assertIs(shows_way(self.tree, self.later, value), False)
            self.assertIs(shows_way(self.tree, self.never, value), False)
            self.assertIs(shows_way(self.tree, self.tree, value), False)
        self.assertIs(shows_way(self.tree, self.tree, ("way", ())), True)


if __name__ == "__main__":
    unittest.main()
