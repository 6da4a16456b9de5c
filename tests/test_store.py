import random
import unittest

from splitscar.commits import applied, entry_of
from splitscar.errors import Full, InvalidDeed, InvalidKey, InvalidMost, InvalidValue, NoKey, TooScarred
from splitscar.images import empty_file
from splitscar.packing import packed_levels
from splitscar.rooms import fewest_strikes
from splitscar.rules import Rule
from splitscar.store import CountingStore, GuardedStore, Store, assign_most
from splitscar.trees import Tree

from tests.file_models import ModelFile, model_levels_of, random_deed
from tests.helpers import BIG, NO_KEYS, ODD_VALUES, RULES, same

SMALL = Rule(2, 1, 2, 2)
CLASSES = [Store, CountingStore, GuardedStore]
NO_VALUES = [None, True, 0, 1, "x" * 41, "a%", "a\nb", "\n", ("a",), ["a"], {}, "x" * 6000]


def same_state(test, store, other):
    """Whether two stores of one class show the same in all respects."""
    test.assertIs(type(store), type(other))
    test.assertEqual(store, other)
    for name in ("rule", "file", "levels", "table", "commit", "born", "last"):
        test.assertEqual(getattr(store, name), getattr(other, name))
    test.assertEqual(repr(store), repr(other))
    if isinstance(store, CountingStore):
        for name in ("puts", "struck", "replaced", "splits"):
            test.assertEqual(getattr(store, name), getattr(other, name))
    if isinstance(store, GuardedStore):
        test.assertEqual((store.most, store.fewest), (other.most, other.fewest))


def filled(made, many=12):
    store = made(SMALL)
    for key in range(many):
        store.put(key, "v" * (key % 12))
    return store


def shown(store):
    """All that a store shows."""
    names = ["rule", "file", "levels", "table", "commit", "born", "last"]
    if isinstance(store, CountingStore):
        names += ["puts", "struck", "replaced", "splits"]
    if isinstance(store, GuardedStore):
        names += ["most", "fewest"]
    return [getattr(store, name) for name in names] + [repr(store), len(store)]


class Histories(unittest.TestCase):
    def test_behind_each_deed(self):
        for number, rule in enumerate(RULES):
            for made in CLASSES:
                rng = random.Random(number)
                store, model, last = made(rule), ModelFile(rule), None
                for commit in range(1, 41):
                    deed = random_deed(rng, model.table(), range(25), rebuilds=0.04)
                    before = model.file()
                    model.do(deed, packed_levels(rule, tuple(key for key, _ in model.table())))
                    self.assertTrue(same(self.done(store, deed, rng), commit))
                    self.assertTrue(same(store.file, model.file()))
                    self.assertEqual(store.levels, model_levels_of(store.file))
                    self.assertEqual(store.table, model.table())
                    self.assertTrue(same((store.commit, store.born), (commit, model.born)))
                    self.assertEqual(store.last, entry_of(rule, before, deed))
                    self.assertTrue(same(len(store), len(store.table)))
                    self.assertIs(store.rule, rule)
                    name = made.__name__
                    self.assertEqual(repr(store), f"{name}({len(store.table)} records, {len(store.file)} pages)")
                    last = store.last
                self.assertEqual(last[0], 40)

    def done(self, store, deed, rng):
        if rng.random() < 0.3:
            return store.do(deed) if rng.random() < 0.5 else store.do(deed=deed)
        if deed[0] == "put":
            return store.put(deed[1], deed[2]) if rng.random() < 0.5 else store.put(value=deed[2], key=deed[1])
        if deed[0] == "strike":
            return store.strike(deed[1]) if rng.random() < 0.5 else store.strike(key=deed[1])
        if deed[0] == "strike range":
            return store.strike_range(*deed[1:]) if rng.random() < 0.5 else store.strike_range(high=deed[2], low=deed[1])
        return store.rebuild()

    def test_the_empty_store(self):
        for made in CLASSES:
            store = made(rule=SMALL)
            self.assertTrue(same(store.file, empty_file()))
            self.assertTrue(same((store.levels, store.table, store.commit, store.born), ((((),),), (), 0, 0)))
            self.assertIsNone(store.last)
            self.assertEqual(repr(store), f"{made.__name__}(0 records, 3 pages)")

    def test_class_values(self):
        for made in CLASSES:
            self.assertTrue(same((made.MOST_RECORDS, made.MOST_TREE, made.MOST_PAGES), (300, 400, 900)))

    def test_of_a_file(self):
        for made in CLASSES:
            store = filled(made)
            store.rebuild()
            store.put(99, "w")
            other = made.of(SMALL, store.file)
            self.assertIs(type(other), made)
            self.assertEqual(other, store)
            self.assertIsNone(other.last)
            self.assertEqual((other.commit, other.born), (14, 13))
            self.assertEqual(other.put(100, ""), 15)
            self.assertEqual(other.last[0], 15)
            self.assertEqual(store.commit, 14)
            self.assertEqual(made.of(file=store.file, rule=SMALL), store)


class Refused(unittest.TestCase):
    def refused(self, store, error, attributes, work):
        state = shown(store)
        with self.assertRaises(error) as caught:
            work()
        for name, value in attributes.items():
            self.assertTrue(same(getattr(caught.exception, name), value))
        self.assertEqual(shown(store), state)

    def test_puts(self):
        for made in CLASSES:
            store = filled(made)
            for value in NO_KEYS:
                self.refused(store, InvalidKey, {"value": value}, lambda: store.put(value, "a"))
                self.refused(store, InvalidKey, {"value": value}, lambda: store.put(value=None, key=value))
            for value in NO_VALUES:
                self.refused(store, InvalidValue, {"value": value}, lambda: store.put(3, value))
                self.refused(store, InvalidValue, {"value": value}, lambda: store.put(value=value, key=-3))

    def test_strikes(self):
        for made in CLASSES:
            store = filled(made)
            for value in NO_KEYS + [-1, 12, BIG - 1]:
                self.refused(store, NoKey, {"key": value}, lambda: store.strike(value))
                self.refused(store, NoKey, {"key": value}, lambda: store.strike(key=value))

    def test_ranges(self):
        for made in CLASSES:
            store = filled(made)
            for value in NO_KEYS:
                self.refused(store, InvalidKey, {"value": value}, lambda: store.strike_range(value, 3))
                self.refused(store, InvalidKey, {"value": value}, lambda: store.strike_range(3, value))
                self.refused(store, InvalidKey, {"value": value}, lambda: store.strike_range(high=[1], low=value))
            self.assertEqual(store.strike_range(5, 3), 13)
            self.assertEqual(store.last[2], ())

    def test_deeds(self):
        for made in CLASSES:
            store = filled(made)
            for value in ODD_VALUES + [("put", BIG, ""), ("put", 1, "\n"), ("strike", True), ["rebuild"], ("get", 1)]:
                self.refused(store, InvalidDeed, {"deed": value}, lambda: store.do(value))
            self.refused(store, NoKey, {"key": 50}, lambda: store.do(("strike", 50)))

    def test_full(self):
        for made in CLASSES:
            store = made(Rule(8, 8, 8, 8))
            for key in range(300):
                store.put(key, "")
            self.refused(store, Full, {"limit": 300}, lambda: store.put(300, ""))
            self.refused(store, Full, {"limit": 300}, lambda: store.do(("put", -1, "")))
            self.assertEqual(store.put(299, "a"), 301)

    def test_nothing_can_be_assigned(self):
        for made in CLASSES:
            store = filled(made)
            for name in ("rule", "file", "levels", "table", "commit", "born", "last", "puts", "struck", "replaced",
                         "splits", "fewest"):
                if hasattr(store, name):
                    with self.assertRaises(AttributeError):
                        setattr(store, name, None)


class Asked(unittest.TestCase):
    def test_values(self):
        for made in CLASSES:
            store = filled(made)
            store.strike(4)
            for key in range(-1, 14):
                if 0 <= key < 12 and key != 4:
                    self.assertEqual(store[key], "v" * (key % 12))
                    self.assertIs(key in store, True)
                else:
                    self.assertIs(key in store, False)
                    with self.assertRaises(NoKey) as caught:
                        store[key]
                    self.assertTrue(same(caught.exception.key, key))
            for value in NO_KEYS:
                self.assertIs(value in store, False)
                with self.assertRaises(NoKey) as caught:
                    store[value]
                self.assertTrue(same(caught.exception.key, value))

    def test_a_store_is_not_iterated_over(self):
        with self.assertRaises(TypeError):
            list(filled(Store))

    def test_scans(self):
        for made in CLASSES:
            store = filled(made)
            self.assertEqual(tuple(store.scan()), store.table)
            self.assertEqual([key for key, _ in store.scan(low=3, high=6)], [3, 4, 5, 6])
            self.assertEqual([key for key, _ in store.scan(low=9)], [9, 10, 11])
            self.assertEqual([key for key, _ in store.scan(high=1)], [0, 1])
            self.assertEqual(list(store.scan(high=1, low=5)), [])
            for value in NO_KEYS[1:]:
                for bounds in [{"low": value}, {"high": value}, {"low": value, "high": ()}]:
                    with self.assertRaises(InvalidKey) as caught:
                        next(store.scan(**bounds))
                    self.assertTrue(same(caught.exception.value, value))
            with self.assertRaises(TypeError):
                store.scan(3)

    def test_a_scan_is_of_the_file_at_the_first_request(self):
        store = filled(Store)
        early, late = store.scan(), store.scan()
        table = store.table
        first = next(early)
        store.strike_range(0, 5)
        store.put(50, "new")
        self.assertEqual((first, *early), table)
        self.assertEqual(tuple(late), store.table)
        self.assertNotEqual(store.table, table)
        store.rebuild()
        one, two = store.scan(low=7), store.scan()
        self.assertEqual([next(one)[0], next(two)[0], next(one)[0], next(two)[0]], [7, 6, 8, 7])

    def test_equality(self):
        stores = [filled(made) for made in CLASSES]
        for store in stores:
            for other in stores:
                self.assertIs(store == other, True)
                self.assertIs(store != other, False)
        assign_most(stores[2], 5)
        self.assertEqual(stores[0], stores[2])
        stores[1].put(3, "vvv")
        self.assertNotEqual(stores[0], stores[1])
        stores[0].put(3, "vvv")
        self.assertEqual(stores[0], stores[1])
        self.assertNotEqual(Store(SMALL), Store(Rule(1, 2, 2, 2)))
        for value in ODD_VALUES + [empty_file(), SMALL, Tree(SMALL)]:
            self.assertIs(Store(SMALL) == value, False)


class Twins(unittest.TestCase):
    def test_twins(self):
        for made in CLASSES:
            store = filled(made)
            store.strike(3)
            if made is GuardedStore:
                store.most = 7
            twin = store.twin()
            same_state(self, twin, store)
            self.assertEqual(twin.last[1], ("strike", 3))
            kept = shown(store)
            twin.put(40, "other")
            twin.strike_range(0, 1)
            if made is GuardedStore:
                twin.most = None
            self.assertEqual(shown(store), kept)
            kept = shown(twin)
            store.rebuild()
            self.assertEqual(shown(twin), kept)
            self.assertIsNone(made(SMALL).twin().last)

    def test_a_twin_of_a_twin(self):
        store = filled(CountingStore)
        twin = store.twin().twin()
        same_state(self, store, twin)
        self.assertIsNot(twin, store)


class Trials(unittest.TestCase):
    def busy(self, store):
        store.put(60, "x" * 30)
        store.put(60, "y")
        store.strike(2)
        store.strike_range(5, 9)
        store.rebuild()
        store.put(61, "")
        store.strike(61)
        if isinstance(store, GuardedStore):
            store.most = 250

    def test_without_an_error(self):
        for made in CLASSES:
            store = filled(made)
            kept = shown(store)
            with store.trial() as same_store:
                self.assertIs(same_store, store)
                self.busy(store)
                self.assertNotEqual(shown(store), kept)
            self.assertEqual(shown(store), kept)

    def test_with_an_error(self):
        for made in CLASSES:
            store = filled(made)
            kept = shown(store)
            for error in (NoKey, ZeroDivisionError, KeyboardInterrupt):
                with self.assertRaises(error):
                    with store.trial():
                        self.busy(store)
                        raise error(1)
                self.assertEqual(shown(store), kept)
            with self.assertRaises(NoKey):
                with store.trial():
                    self.busy(store)
                    store.strike(61)
            self.assertEqual(shown(store), kept)

    def test_within_one_another(self):
        for made in CLASSES:
            store = filled(made)
            first = shown(store)
            trial = store.trial()
            with trial:
                store.put(70, "")
                second = shown(store)
                # The same object once more, and another one.
                with trial:
                    self.busy(store)
                    third = shown(store)
                    with store.trial():
                        store.strike_range(-99, 99)
                    self.assertEqual(shown(store), third)
                self.assertEqual(shown(store), second)
                with trial:
                    store.rebuild()
                self.assertEqual(shown(store), second)
            self.assertEqual(shown(store), first)
            store.put(71, "")
            later = shown(store)
            with trial:
                self.busy(store)
            self.assertEqual(shown(store), later)

    def test_an_early_trial(self):
        store = filled(Store)
        trial = store.trial()
        store.put(90, "z")
        kept = shown(store)
        with trial:
            store.strike(90)
        self.assertEqual(shown(store), kept)

    def test_twins_in_trials(self):
        store = filled(GuardedStore)
        with store.trial():
            store.put(50, "a")
            twin = store.twin()
            twin.put(51, "b")
        self.assertNotIn(50, store)
        self.assertIn(50, twin)
        self.assertIn(51, twin)

    def test_scans_in_trials(self):
        store = filled(Store)
        with store.trial():
            store.strike_range(0, 9)
            walk = store.scan()
            self.assertEqual(next(walk)[0], 10)
        self.assertEqual(next(walk)[0], 11)
        self.assertEqual(next(store.scan())[0], 0)

    def test_tried(self):
        for made in CLASSES:
            store = filled(made)
            kept = shown(store)
            self.assertEqual(store.tried(lambda held: (held is store, held.put(80, ""), held.table[-1])),
                             (True, 13, (80, "")))
            self.assertEqual(shown(store), kept)
            self.assertIsNone(store.tried(work=self.busy))
            self.assertEqual(shown(store), kept)
            with self.assertRaises(NoKey):
                store.tried(lambda held: (held.put(80, ""), held.strike(81)))
            self.assertEqual(shown(store), kept)
            self.assertEqual(store.tried(lambda held: held.tried(lambda again: again.rebuild()) + held.put(1, "")), 26)
            self.assertEqual(shown(store), kept)


class Counts(unittest.TestCase):
    def counts(self, store):
        return (store.puts, store.struck, store.replaced, store.splits)

    def test_random_histories(self):
        for made in (CountingStore, GuardedStore):
            for number, rule in enumerate(RULES):
                rng = random.Random(number + 7)
                store = made(rule)
                puts = struck = replaced = leaves = pages = 0
                for _ in range(60):
                    table, levels = dict(store.table), store.levels
                    deed = random_deed(rng, store.table, range(60), rebuilds=0.03)
                    store.do(deed)
                    if deed[0] == "rebuild":
                        puts = struck = replaced = leaves = pages = 0
                    elif deed[0] == "put":
                        replaced += deed[1] in table
                        puts += deed[1] not in table
                        leaves += len(store.levels[-1]) - len(levels[-1])
                        # Each split page leaves one page more on its level, also where a new root comes above it.
                        for level in range(2, len(levels) + 1):
                            pages += len(store.levels[-level]) - len(levels[-level])
                    else:
                        struck += sum(deed[1] <= key <= deed[-1] for key in table)
                    self.assertTrue(same(self.counts(store), (puts, struck, replaced, (leaves, pages))))

    def test_few_deeds(self):
        store = CountingStore(SMALL)
        self.assertTrue(same(self.counts(store), (0, 0, 0, (0, 0))))
        for key in range(1, 8):
            store.put(key, "a")
        self.assertTrue(same(self.counts(store), (7, 0, 0, (3, 1))))
        store.put(3, "a")
        store.put(3, "b" * 20)
        store.strike_range(3, 5)
        store.strike_range(3, 5)
        store.strike(7)
        self.assertTrue(same(self.counts(store), (7, 4, 2, (3, 1))))
        store.put(3, "again")
        self.assertEqual(self.counts(store), (8, 4, 2, (3, 1)))
        store.rebuild()
        self.assertTrue(same(self.counts(store), (0, 0, 0, (0, 0))))
        store.put(9, "")
        self.assertEqual(store.puts, 1)
        self.assertEqual(self.counts(CountingStore.of(SMALL, store.file)), (0, 0, 0, (0, 0)))

    def test_refused_deeds_do_not_count(self):
        store = CountingStore(SMALL)
        store.put(1, "a")
        for work in (lambda: store.strike(2), lambda: store.put(1, None), lambda: store.put(None, "")):
            with self.assertRaises((NoKey, InvalidValue, InvalidKey)):
                work()
        self.assertEqual(self.counts(store), (1, 0, 0, (0, 0)))


class Guarded(unittest.TestCase):
    def test_refuses_just_what_is_above_the_bound(self):
        met = {True: 0, False: 0}
        for number, rule in enumerate(RULES):
            rng = random.Random(number + 3)
            store = GuardedStore(rule, most=number % 4)
            for _ in range(70):
                deed = random_deed(rng, store.table, range(40), rebuilds=0.02)
                file = applied(store.file, entry_of(rule, store.file, deed))
                strikes = fewest_strikes(Tree(rule, model_levels_of(file)))
                kept = shown(store)
                met[strikes > store.most] += 1
                if strikes > store.most:
                    with self.assertRaises(TooScarred) as caught:
                        store.do(deed)
                    self.assertTrue(same(caught.exception.strikes, strikes))
                    self.assertEqual(shown(store), kept)
                else:
                    store.do(deed)
                    self.assertEqual(store.file, file)
                    self.assertTrue(same(store.fewest, strikes))
        self.assertGreater(min(met.values()), 100)

    def test_by_the_methods(self):
        store = GuardedStore(SMALL, most=0)
        for key in range(1, 4):
            store.put(key, "")
        for work in (lambda: store.strike(3), lambda: store.strike_range(2, 9), lambda: store.do(("strike", 3))):
            with self.assertRaises(TooScarred):
                work()
        # A strike of which nothing tells is not refused.
        other = GuardedStore(Rule(3, 1, 2, 2), most=0)
        for key in range(1, 6):
            other.put(key, "")
        self.assertEqual(other.levels, (((4,),), ((1, 2, 3), (4, 5))))
        other.strike(5)
        with self.assertRaises(TooScarred) as caught:
            other.strike(4)
        self.assertTrue(same(caught.exception.strikes, 1))
        self.assertTrue(same(other.fewest, 0))

    def test_behind_all_other_errors(self):
        store = GuardedStore(SMALL, most=0)
        for key in range(1, 4):
            store.put(key, "")
        with self.assertRaises(NoKey):
            store.strike(9)
        with self.assertRaises(NoKey):
            store.strike(True)
        with self.assertRaises(InvalidKey):
            store.strike_range(0, None)
        with self.assertRaises(InvalidDeed):
            store.do(("strike", None))

    def test_no_bound(self):
        store = filled(GuardedStore, 30)
        self.assertIsNone(store.most)
        store.strike_range(0, 29)
        self.assertEqual(store.fewest, fewest_strikes(Tree(SMALL, store.levels)))
        self.assertGreater(store.fewest, 10)
        store.rebuild()
        self.assertTrue(same(store.fewest, 0))

    def test_the_constructor(self):
        for most in (None, 0, 1, 300):
            self.assertTrue(same(GuardedStore(SMALL, most=most).most, most))
        self.assertIsNone(GuardedStore(rule=SMALL).most)
        for value in ODD_VALUES + [301, 10 ** 15, "0"]:
            if value is None or type(value) is int and 0 <= value <= 300:
                continue
            with self.assertRaises(InvalidMost) as caught:
                GuardedStore(SMALL, most=value)
            self.assertTrue(same(caught.exception.value, value))
        with self.assertRaises(TypeError):
            GuardedStore(SMALL, 3)

    def test_most_is_assigned(self):
        store = filled(GuardedStore)
        store.strike_range(2, 6)
        fewest = store.fewest
        self.assertGreater(fewest, 1)
        for most in (fewest, fewest + 1, 300, None):
            store.most = most
            self.assertTrue(same(store.most, most))
            self.assertIsNone(assign_most(store=store, value=most))
            self.assertTrue(same(store.most, most))
        store.most = fewest
        for value in ODD_VALUES + [fewest - 1, 301, 0, -1]:
            if value is None or type(value) is int and fewest <= value <= 300:
                continue
            for work in (lambda: assign_most(store, value), lambda: setattr(store, "most", value)):
                kept = shown(store)
                with self.assertRaises(InvalidMost) as caught:
                    work()
                self.assertTrue(same(caught.exception.value, value))
                self.assertEqual(shown(store), kept)
        with self.assertRaises(TooScarred) as caught:
            store.strike_range(0, 99)
        self.assertGreater(caught.exception.strikes, fewest)
        assign_most(store, caught.exception.strikes)
        store.strike_range(0, 99)
        self.assertEqual(store.fewest, store.most)

    def test_of(self):
        store = GuardedStore(SMALL, most=50)
        for key in range(9):
            store.put(key, "")
        store.strike(4)
        other = GuardedStore.of(SMALL, store.file)
        self.assertIs(type(other), GuardedStore)
        self.assertIsNone(other.most)
        self.assertEqual(other.fewest, store.fewest)
        self.assertEqual((other.puts, other.struck), (0, 0))
        self.assertEqual(GuardedStore.of(file=store.file, rule=SMALL), store)

    def test_large_stores(self):
        rng = random.Random(1)
        store = GuardedStore(Rule(3, 2, 3, 2), most=40)
        refused = 0
        for _ in range(700):
            deed = random_deed(rng, store.table, range(500), rebuilds=0)
            try:
                store.do(deed if len(store.file) < 850 else ("strike range", 0, 20))
            except TooScarred as error:
                refused += 1
                self.assertGreater(error.strikes, 40)
                if len(store.file) >= 850:
                    break
        self.assertGreater(refused, 0)
        self.assertLessEqual(store.fewest, 40)


if __name__ == "__main__":
    unittest.main()
