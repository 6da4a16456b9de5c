import random
import unittest

from splitscar.errors import InvalidEvent, NoHistory, NoRoom
from splitscar.roomcheck import played_keys, shows_strikes
from splitscar.rooms import fewest_strikes, least_deeds, rooms_of, strike_rows
from splitscar.rules import Rule
from splitscar.shapes import shape_of
from splitscar.trees import Tree

from tests.check_models import model_cone, model_played, model_shows_strikes
from tests.helpers import BIG, NO_KEYS, ODD_VALUES, RULES, same, struck_levels
from tests.shape_models import model_asked
from tests.test_rooms import dense_trees, model_rooms, old_trees
from tests.variants import variants

SMALL = Rule(2, 1, 2, 2)


def random_deeds(rng, many, keys):
    there, found = [], []
    for _ in range(many):
        if there and rng.random() < 0.35:
            found.append(("strike", there.pop(rng.randrange(len(there)))))
        else:
            key = rng.choice(keys)
            if key not in there:
                there.append(key)
                found.append(("put", key))
    return tuple(found)


class Played(unittest.TestCase):
    def test_random_deeds(self):
        for number, rule in enumerate(RULES):
            rng = random.Random(number)
            for many in (0, 1, 20, 100):
                deeds = random_deeds(rng, many, range(40))
                tree = played_keys(rule, deeds)
                self.assertIs(type(tree), Tree)
                self.assertEqual(tree, Tree(rule, model_played(rule, deeds)))
                self.assertEqual(played_keys(rule=rule, deeds=deeds), tree)
        self.assertEqual(played_keys(SMALL, ()), Tree(SMALL))

    def test_many_deeds(self):
        deeds = tuple(("put", key) for key in range(300)) + tuple(("strike", key) for key in range(0, 300))
        self.assertEqual(len(deeds), 600)
        self.assertEqual(played_keys(SMALL, deeds).levels, model_played(SMALL, deeds))
        # More deeds are no error.
        self.assertEqual(len(played_keys(SMALL, deeds + deeds[:299])), 299)

    def test_invalid_events(self):
        deeds = (("put", 1), ("put", 2), ("strike", 1), ("put", 3))
        bad = [("put", 2), ("strike", 1), ("strike", 9), ("put", True), ("put", BIG), ("put", "1"), ("put", None),
               ["put", 5], ("put",), ("put", 5, ""), ("get", 5), ("Put", 5), (("put", 5),), ("strike", True), (1, 5),
               (None, 5), ([], 5), ("strike range", 5)]
        for value in ODD_VALUES + bad:
            for rest in ((), (None,), deeds):
                with self.assertRaises(InvalidEvent) as caught:
                    played_keys(SMALL, deeds[:3] + (value,) + rest)
                self.assertTrue(same(caught.exception.index, 3))
                self.assertEqual(model_played(SMALL, deeds[:3] + (value,) + rest), 3)
        self.assertRaises(InvalidEvent, played_keys, SMALL, (("strike", 1),))

    def test_one_thing_changed(self):
        deeds = (("put", 1), ("put", 2), ("put", 3), ("strike", 2), ("put", 2))
        for value in variants(deeds):
            if not isinstance(value, tuple):
                continue
            right = model_played(SMALL, value)
            if isinstance(right, int):
                with self.assertRaises(InvalidEvent) as caught:
                    played_keys(SMALL, value)
                self.assertTrue(same(caught.exception.index, right))
            else:
                self.assertEqual(played_keys(SMALL, value).levels, right)


class Shows(unittest.TestCase):
    def check(self, tree, value, right=None):
        shape = shape_of(tree.levels)
        model = model_shows_strikes(tree.rule, shape, model_rooms(tree), tree.levels, value)
        self.assertIs(shows_strikes(tree, value), model)
        if right is not None:
            self.assertIs(model, right)
        return model

    def paper(self, tree):
        """What the functions return about a tree."""
        try:
            return ("fewest", least_deeds(tree), strike_rows(tree))
        except NoRoom as error:
            return ("room", error.leaf)
        except NoHistory as error:
            return ("fault", error.fault)

    def trees(self):
        yield from dense_trees()
        yield from old_trees()

    def test_what_the_functions_return(self):
        met = {}
        for tree in self.trees():
            paper = self.paper(tree)
            met[paper[0]] = met.get(paper[0], 0) + 1
            self.assertIs(shows_strikes(tree, paper), True)
            self.assertIs(shows_strikes(tree=tree, value=paper), True)
            self.assertIs(shows_strikes(tree, list(paper)), False)
            self.assertIs(shows_strikes(tree, paper + (None,)), False)
        self.assertGreater(min(met.values()), 50)

    def test_counts_and_rows(self):
        rng = random.Random(1)
        met = {"leaf": 0, "lead": 0, "other": 0}
        for tree in list(dense_trees())[::2] + list(old_trees())[::9]:
            paper = self.paper(tree)
            if paper[0] != "fewest":
                continue
            deeds, rows = paper[1:]
            mixed = list(rows)
            rng.shuffle(mixed)
            self.check(tree, ("fewest", deeds, tuple(mixed)), True)
            self.check(tree, ("fewest", deeds, list(mixed)), False)
            for at in sorted(rng.sample(range(len(rows)), min(4, len(rows)))):
                row = rows[at]
                met[row[0]] += 1
                rest = rows[:at] + rows[at + 1:]
                self.check(tree, ("fewest", deeds, rest), False)
                self.check(tree, ("fewest", deeds, rest + (row, row)), False)
                for count in (row[-1] + 1, row[-1] - 1, 0, -1, True, None, "1", BIG):
                    self.check(tree, ("fewest", deeds, rest + (row[:-1] + (count,),)), False)
                self.check(tree, ("fewest", deeds, rest + (list(row),)), False)
                # The count in two rows, or a strike more on one page and less on another.
                halves = (row[:-1] + (1,), row[:-1] + (row[-1] - 1,))
                self.check(tree, ("fewest", deeds, rest + halves), False)
                other = (row[0],) + tuple(number + 1 for number in row[1:-1]) + row[-1:]
                met["other"] += self.check(tree, ("fewest", deeds, rest + (other,)))
        self.assertGreater(min(met["leaf"], met["lead"]), 20)

    def test_fewer_strikes_with_fewer_rows(self):
        """Rows whose counts are less than the strikes show nothing, also if each of them fits."""
        for tree in old_trees():
            if fewest_strikes(tree):
                deeds, rows = least_deeds(tree), strike_rows(tree)
                self.check(tree, ("fewest", deeds, rows[1:]), False)
                again = [key for key in range(-999, -990) if key not in tree][:1]
                more = deeds + (("put", again[0]), ("strike", again[0]))
                self.check(tree, ("fewest", more, rows), False)

    def test_deeds_otherwise(self):
        for tree in list(old_trees())[::5]:
            deeds, rows = least_deeds(tree), strike_rows(tree)
            for at in range(0, len(deeds), 3):
                self.check(tree, ("fewest", deeds[:at] + deeds[at + 1:], rows))
                self.check(tree, ("fewest", deeds[:at] + (deeds[at],) + deeds[at:], rows), False)
                self.check(tree, ("fewest", deeds[:at] + (list(deeds[at]),) + deeds[at + 1:], rows), False)
                self.check(tree, ("fewest", deeds[:at] + (None,) + deeds[at + 1:], rows), False)
            self.check(tree, ("fewest", deeds[::-1], rows))
            self.check(tree, ("fewest", list(deeds), rows), False)
            self.check(tree, ("fewest", deeds + (("put", 10 ** 14),), rows), False)

    def test_bent_values(self):
        found = {}
        for tree in dense_trees():
            paper = self.paper(tree)
            if len(tree) < 9 and (paper[0] != "fewest" or len(paper[2]) > 1):
                found.setdefault(paper[0], (tree, paper))
        self.assertEqual(sorted(found), ["fault", "fewest", "room"])
        for tree, paper in found.values():
            for value in variants(paper):
                self.check(tree, value)

    def test_cones_that_share_a_leaf(self):
        """A lead of a lead: both are about the same leaf, so only one of the rows can stand."""
        leaves = ((1, 2), (3,), (4,), (5,), (10,), (12,), (13,), (14,), (15,), (16,))
        levels = (((10,),), ((4,), (13, 15)), ((3,), (5,), (12,), (14,), (16,)), leaves)
        tree = Tree(Rule(2, 1, 2, 2), levels)
        self.assertEqual(strike_rows(tree), (("lead", 1, 1, 1),))
        self.check(tree, self.paper(tree), True)
        met = self.shared()
        self.assertGreater(met, 10)

    def shared(self):
        """Rows for all pages that are asked: they fit only if no leaf is in two cones."""
        met = 0
        for tree in dense_trees():
            paper, sizes = self.paper(tree), shape_of(tree.levels)[0]
            if paper[0] == "fewest":
                asked = [(level, page) for level in range(len(sizes) - 1) for page in range(len(sizes[level]))
                         if model_asked(tree.rule, sizes, level, page)]
                rows = tuple(("lead", level, page, 1) for level, page in asked)
                leaf_rows = tuple(row for row in paper[2] if row[0] == "leaf")
                self.check(tree, ("fewest", paper[1], rows + leaf_rows))
                for row in rows:
                    self.check(tree, ("fewest", paper[1], (row,)))
                met += len(asked) > 1
        return met

    def test_two_rows_about_one_leaf(self):
        """Counts that fit each for itself, and whose sum is right, but whose cones share a leaf."""
        met = {True: 0, False: 0}
        for numbers in [(3, 1, 2, 2), (4, 2, 3, 3), (1, 3, 2, 2), (3, 2, 4, 2)]:
            for seed in range(12):
                tree = Tree(Rule(*numbers), struck_levels(Rule(*numbers), seed, 90, 68))
                sizes, deeds, rows = shape_of(tree.levels)[0], least_deeds(tree), strike_rows(tree)
                asked = [(level, page) for level in range(len(sizes) - 1) for page in range(len(sizes[level]))
                         if model_asked(tree.rule, sizes, level, page)]
                cones = {place: set(model_cone(tree.rule, sizes, *place)) for place in asked}
                for row in rows:
                    for place in asked:
                        if row[0] == "lead" and place != row[1:3] and cones[place] & cones[row[1:3]]:
                            rest = tuple(other for other in rows if other != row)
                            for count in range(1, row[3] + 1):
                                less = (row[:3] + (row[3] - count,),) if row[3] > count else ()
                                value = ("fewest", deeds, rest + less + (("lead", *place, count),))
                                met[self.check(tree, value)] += 1
        self.assertGreater(min(met.values()), 2)

    def test_other_counts_with_the_same_sum(self):
        met = 0
        for tree in list(dense_trees())[::2] + list(old_trees())[::9]:
            paper = self.paper(tree)
            if paper[0] != "fewest" or not paper[2]:
                continue
            deeds, rows = paper[1:]
            sizes = shape_of(tree.levels)[0]
            last, rest = rows[-1], rows[:-1]
            # A count of 0 or below, a bool, a leaf or a page that there is not.
            for other in (("leaf", 0, 0), ("leaf", len(sizes[-1]), 0), ("leaf", 0, False)):
                self.check(tree, ("fewest", deeds, rows + (other,)), False)
            self.check(tree, ("fewest", deeds, rest + (last[:-1] + (last[-1] + 1,), ("leaf", 0, -1))), False)
            if last[-1] == 1:
                self.check(tree, ("fewest", deeds, rest + (last[:-1] + (True,),)), False)
            for other in [("leaf", -1), ("leaf", len(sizes[-1])), ("lead", -1, 0), ("lead", 0, -1),
                          ("lead", len(sizes) - 1, 0), ("lead", len(sizes), 0), ("lead", 0, len(sizes[0]))]:
                self.check(tree, ("fewest", deeds, rest + (other + last[-1:],)), False)
            for at, row in enumerate(rest[:5]):
                met += 1
                more, less = row[:-1] + (row[-1] + 1,), last[:-1] + (last[-1] - 1,)
                others = rest[:at] + rest[at + 1:] + (more,) + ((less,) if less[-1] else ())
                self.check(tree, ("fewest", deeds, others))
                fewer = row[:-1] + (row[-1] - 1,)
                others = rest[:at] + rest[at + 1:] + (last[:-1] + (last[-1] + 1,),) + ((fewer,) if fewer[-1] else ())
                self.check(tree, ("fewest", deeds, others))
        self.assertGreater(met, 30)

    def test_a_lead_without_a_price(self):
        # No leaf of the cone has room for two keys, so no count fits; the levels have no history at all.
        leaves = ((1, 2), (5,), (7,), (8,), (9,))
        tree = Tree(SMALL, (((7,),), ((5,), (8, 9)), leaves))
        self.assertEqual(rooms_of(tree)[2:4], (1, 1))
        self.check(tree, ("fault", (1, 1, "lead")), True)
        for count in (1, 2, 3):
            self.check(tree, ("fewest", (), (("lead", 1, 1, count),)), False)
        # Only the leaf of 8 has a price.
        wide = Tree(SMALL, (((7,),), ((5,), (8, 10)), ((1, 2), (5,), (7,), (8,), (10,))))
        deeds = least_deeds(wide)
        self.check(wide, ("fewest", deeds, (("lead", 1, 1, 1),)), True)
        self.check(wide, ("fewest", deeds, (("lead", 1, 1, 2),)), False)
        self.check(wide, ("fewest", deeds, (("lead", 1, 0, 1),)), False)
        self.check(wide, ("fewest", deeds, (("lead", 2, 1, 1),)), False)
        self.check(wide, ("fewest", deeds, (("leaf", 3, 1),)), False)

    def test_rooms_and_faults(self):
        met = {True: 0, False: 0}
        for tree in list(dense_trees())[::2]:
            sizes = shape_of(tree.levels)[0]
            for leaf in range(-1, len(sizes[-1]) + 1):
                met[self.check(tree, ("room", leaf))] += 1
            for level in range(len(sizes)):
                for page in range(len(sizes[level])):
                    for word in ("few", "edge", "lead", "ghost", "many"):
                        self.check(tree, ("fault", (level, page, word)))
        self.assertGreater(min(met.values()), 50)
        close = Tree(Rule(2, 2, 2, 2), (((5, 6),), ((1, 2), (5,), (6, 7))))
        self.check(close, ("room", 1), True)
        for value in ODD_VALUES + [0, 2, "1", (1,), -2]:
            self.check(close, ("room", value), type(value) is int and value == 1)
            self.check(close, ("fault", value), False)

    def test_at_most_600_deeds(self):
        # Each leaf gets one key, and each key that is struck leaves a ghost.
        rule = Rule(1, 1, 8, 8)
        full = Tree.grown(rule, *range(301))
        puts = tuple(("put", key) for key in range(301))
        for struck in (0, 1, 298, 299, 300):
            keys = range(1, struck + 1)
            tree, deeds = full, puts + tuple(("strike", key) for key in keys)
            for key in keys:
                tree = tree - key
            self.assertEqual(fewest_strikes(tree), struck)
            self.check(tree, ("fewest", deeds, strike_rows(tree)), len(deeds) <= 600)
        small, deeds = Tree.grown(SMALL, 1, 2, 3), tuple(("put", key) for key in (1, 2, 3))
        for times in (0, 1, 298, 299):
            self.check(small, ("fewest", deeds + (("put", 4), ("strike", 4)) * times, ()), times == 0)

    def test_any_values(self):
        tree = Tree.grown(SMALL, 1, 2, 3) - 3
        for value in ODD_VALUES + NO_KEYS + [("fewest",), ("fewest", ()), ("fewest", (), (), ()), ("least", (), ())]:
            self.check(tree, value, False)
        for value in ODD_VALUES:
            for word in ("fewest", "room", "fault"):
                self.check(tree, (word, value))
                self.check(tree, (word, value, value))
                self.check(tree, (word, least_deeds(tree), value))
                self.check(tree, (word, value, strike_rows(tree)))
                self.check(tree, (word, least_deeds(tree), (value,)), False)
                self.check(tree, (word, least_deeds(tree), strike_rows(tree) + (value,)), False)
        self.check(Tree(SMALL), ("fewest", (), ()), True)
        self.check(Tree(SMALL), ("fewest", (("put", 1), ("strike", 1)), ()), False)


if __name__ == "__main__":
    unittest.main()
