import random
import unittest

from splitscar.between import way_between
from splitscar.betweencheck import shows_way
from splitscar.errors import NotLater, Rebuilt, TooLarge, TooMany
from splitscar.evidence import Evidence
from splitscar.later import puts_between, struck_between
from splitscar.rules import Rule
from splitscar.store import Store

from tests.file_models import random_deed
from tests.helpers import RULES, same
from tests.tree_models import model_separators

SMALL = Rule(2, 1, 2, 2)


def moments(rule, seed, many, keys=range(20), rebuilds=0.03):
    """Evidences of all moments of a history, with the keys that each deed struck."""
    rng = random.Random(seed)
    store = Store(rule)
    found, struck = [Evidence.of(store)], [()]
    for _ in range(many):
        store.do(random_deed(rng, store.table, keys, rebuilds=rebuilds))
        found.append(Evidence.of(store))
        struck.append(store.last[2])
    return found, struck


def model_refusal(first, later):
    """The error by the words of the interface, as its class and its argument, or None."""
    if later.commit < first.commit:
        return (NotLater, None)
    if later.born != first.born:
        return (Rebuilt, later.born)
    lacks = [separator for separator in model_separators(first.levels)
             if separator not in model_separators(later.levels)]
    return (NotLater, lacks[0]) if lacks else None


class Pairs(unittest.TestCase):
    def refused(self, refusal, first, later):
        for work in (struck_between, puts_between):
            with self.assertRaises(refusal[0]) as caught:
                work(first, later)
            name = "separator" if refusal[0] is NotLater else "number"
            self.assertTrue(same(getattr(caught.exception, name), refusal[1]))

    def test_pairs_of_moments(self):
        met = {}
        for number, rule in enumerate(RULES):
            found, struck = moments(rule, number, 24)
            for at in range(0, len(found), 2):
                for other in range(0, len(found), 3):
                    first, later = found[at], found[other]
                    refusal = model_refusal(first, later)
                    met[refusal and refusal[0]] = met.get(refusal and refusal[0], 0) + 1
                    if refusal is not None:
                        self.refused(refusal, first, later)
                        continue
                    self.between(first, later, [key for keys in struck[at + 1:other + 1] for key in keys])
        self.assertGreater(min(met.values()), 20)

    def between(self, first, later, struck):
        gone = set(first.tree.stored) - set(later.tree.stored)
        right = tuple(sorted(gone | (set(later.ghosts) - set(first.ghosts))))
        keys = struck_between(first, later)
        self.assertTrue(same(keys, right))
        # What seems struck was struck.
        self.assertTrue(set(keys) <= set(struck))
        if right:
            self.assertTrue(same(puts_between(first, later), ("struck", right)))
            return
        new = len(later.tree) - len(first.tree)
        if new > 6:
            with self.assertRaises(TooLarge) as caught:
                puts_between(first, later)
            self.assertTrue(same(caught.exception.limit, 6))
            return
        told = puts_between(first, later)
        self.assertTrue(same(told, way_between(first.tree, later.tree)))
        self.assertIs(shows_way(first.tree, later.tree, told), True)
        if not struck:
            self.assertEqual(told[0], "way")

    def test_exchanged(self):
        found, _ = moments(SMALL, 2, 12, rebuilds=0)
        for at in range(len(found)):
            for other in range(at):
                self.refused((NotLater, None), found[at], found[other])
            self.assertEqual(struck_between(found[at], found[at]), ())
            self.assertEqual(puts_between(found[at], found[at]), ("way", ()))

    def test_a_rebuild_between(self):
        store = Store(SMALL)
        for key in range(6):
            store.put(key, "")
        first = Evidence.of(store)
        store.rebuild()
        second = Evidence.of(store)
        store.put(9, "")
        third = Evidence.of(store)
        store.rebuild()
        self.refused((Rebuilt, 7), first, second)
        self.refused((Rebuilt, 7), first, third)
        self.refused((Rebuilt, 9), first, Evidence.of(store))
        self.refused((Rebuilt, 9), third, Evidence.of(store))
        self.refused((NotLater, None), third, first)
        self.assertEqual(puts_between(second, third), ("way", (9,)))

    def test_separators_that_lack(self):
        store = Store(SMALL)
        for key in range(10, 20):
            store.put(key, "")
        first = Evidence.of(store)
        other = Store(SMALL)
        for key in range(30, 50):
            other.put(key, "")
        # A file of another index: the first separator, although there is a rebuild of no number.
        self.refused((NotLater, model_separators(first.levels)[0]), first, Evidence.of(other))
        partly = Store(SMALL)
        for key in (10, 11, 12, 13, 14, 15, 40, 41, 42, 43, 44):
            partly.put(key, "")
        lacks = [key for key in model_separators(first.levels) if key not in model_separators(partly.levels)]
        self.assertGreater(lacks[0], model_separators(first.levels)[0])
        self.refused((NotLater, lacks[0]), first, Evidence.of(partly))

    def test_the_order_of_the_errors(self):
        store = Store(SMALL)
        for key in range(6):
            store.put(key, "")
        first = Evidence.of(store)
        store.rebuild()
        other = Store(SMALL)
        other.put(50, "")
        # An earlier commit comes before another born, and this before a separator.
        self.refused((NotLater, None), Evidence.of(store), Evidence.of(other))
        for key in range(51, 60):
            other.put(key, "")
        other.rebuild()
        self.refused((Rebuilt, 11), first, Evidence.of(other))


class Puts(unittest.TestCase):
    def two(self, many):
        store = Store(SMALL)
        for key in range(0, 40, 2):
            store.put(key, "")
        first = Evidence.of(store)
        for key in range(many):
            store.put(2 * key + 1, "")
        return first, Evidence.of(store)

    def test_too_large(self):
        for many in (6, 7, 9):
            first, later = self.two(many)
            self.assertEqual(struck_between(first=first, later=later), ())
            if many > 6:
                with self.assertRaises(TooLarge) as caught:
                    puts_between(first, later, limit=0)
                self.assertTrue(same(caught.exception.limit, 6))
            else:
                self.assertEqual(puts_between(first, later)[0], "way")

    def test_too_many(self):
        first, later = self.two(5)
        for limit in (0, 1, 3):
            with self.assertRaises(TooMany) as caught:
                puts_between(first, later, limit=limit)
            self.assertTrue(same(caught.exception.limit, limit))
        told = puts_between(first=first, later=later, limit=5000)
        self.assertIs(shows_way(first.tree, later.tree, told), True)
        with self.assertRaises(TypeError):
            puts_between(first, later, 5)

    def test_struck_comes_before_too_large(self):
        first, later = self.two(9)
        store = Store(SMALL)
        for key in range(0, 40, 2):
            store.put(key, "")
        first = Evidence.of(store)
        store.strike(20)
        for key in range(9):
            store.put(2 * key + 1, "")
        self.assertEqual(puts_between(first, Evidence.of(store), limit=0), ("struck", (20,)))

    def test_never(self):
        # The key that split the leaf was struck, but neither a separator nor a missing key tells which one it was.
        store = Store(SMALL)
        store.put(1, "")
        store.put(9, "")
        first = Evidence.of(store)
        store.put(5, "")
        store.strike(5)
        later = Evidence.of(store)
        self.assertEqual(later.levels, (((9,),), ((1,), (9,))))
        self.assertEqual(struck_between(first, later), ())
        self.assertTrue(same(puts_between(first, later), ("never", (later.levels,))))
        store.put(12, "")
        told = puts_between(first, Evidence.of(store))
        self.assertEqual(told, way_between(first.tree, Evidence.of(store).tree))
        self.assertEqual(told[0], "never")
        self.assertIs(shows_way(first.tree, Evidence.of(store).tree, told), True)

    def test_a_ghost_of_both(self):
        store = Store(SMALL)
        for key in range(8):
            store.put(key, "")
        store.strike(4)
        first = Evidence.of(store)
        self.assertEqual(first.ghosts, (4,))
        store.put(20, "")
        self.assertEqual(struck_between(first, Evidence.of(store)), ())
        store.put(4, "")
        again = Evidence.of(store)
        store.strike(4)
        self.assertEqual(struck_between(again, Evidence.of(store)), (4,))
        self.assertEqual(struck_between(first, Evidence.of(store)), ())


if __name__ == "__main__":
    unittest.main()
