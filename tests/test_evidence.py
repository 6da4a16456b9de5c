import random
import unittest

from splitscar.errors import NotSound, TooLong
from splitscar.evidence import Evidence
from splitscar.faults import faults, tree_fault
from splitscar.filecheck import file_fault
from splitscar.images import empty_file, levels_of
from splitscar.leads import leads, shows_grown
from splitscar.levels import ghosts_of, separators_of
from splitscar.logged import LoggedStore
from splitscar.ordercheck import shows_order
from splitscar.roomcheck import shows_strikes
from splitscar.rooms import fewest_strikes, least_deeds, strike_rows, surely_struck
from splitscar.rules import Rule
from splitscar.scans import table_of
from splitscar.shapes import shape_of
from splitscar.shrinking import order_of
from splitscar.store import CountingStore, GuardedStore, Store
from splitscar.trees import Tree

from tests.check_models import model_file_fault
from tests.file_models import random_deed
from tests.helpers import ODD_VALUES, RULES, same
from tests.test_filecheck import histories
from tests.test_rooms import dense_trees
from tests.variants import variants

SMALL = Rule(2, 1, 2, 2)


def file_of(tree, born=0, commit=7):
    """A sound file with the levels of a tree: its pages are numbered from 2 on, level by level."""
    levels, number = tree.levels, 2
    images, rows = [], []
    for pages in levels:
        rows.append(list(range(number, number + len(pages))))
        number += len(pages)
    for level, pages in enumerate(levels):
        at = 0
        for page, integers in enumerate(pages):
            if level + 1 < len(levels):
                images.append(("inner", integers, tuple(rows[level + 1][at:at + len(integers) + 1])))
                at += len(integers) + 1
            else:
                right = rows[level][page + 1] if page + 1 < len(pages) else None
                images.append(("leaf", tuple((key, "") for key in integers), right))
    return (("head", 2, born), ("space", number, (), commit), *images)


def shown(evidence):
    names = ("rule", "tree", "levels", "shape", "table", "born", "commit", "ghosts", "fewest", "struck_keys")
    return [getattr(evidence, name) for name in names] + [len(evidence), repr(evidence), evidence.verdict()]


class Properties(unittest.TestCase):
    def check(self, rule, file):
        evidence = Evidence(rule, file)
        tree = Tree(rule, levels_of(file))
        ghosts = tuple(separators_of(tree.levels)[leaf - 1] for leaf in ghosts_of(tree.levels))
        fewest = fewest_strikes(tree)
        struck = None if fewest is None else surely_struck(tree)
        self.assertIs(evidence.rule, rule)
        self.assertIs(type(evidence.tree), Tree)
        self.assertTrue(same(
            [evidence.tree, evidence.levels, evidence.shape, evidence.table, evidence.born, evidence.commit,
             evidence.ghosts, evidence.fewest, evidence.struck_keys, len(evidence), repr(evidence)],
            [tree, tree.levels, shape_of(tree.levels), table_of(file), file[0][2], file[1][3],
             ghosts, fewest, struck, len(tree),
             f"Evidence({len(tree)} records, {len(ghosts)} ghosts)"],
        ))
        return evidence

    def test_files_of_histories(self):
        for rng, rule, files in histories(RULES, 1, 40):
            for file in files[::3]:
                self.check(rule, file)

    def test_files_without_a_history(self):
        met = 0
        for tree in dense_trees():
            file = file_of(tree, born=3, commit=3)
            self.assertIsNone(file_fault(tree.rule, file))
            evidence = self.check(tree.rule, file)
            met += evidence.fewest is None
            self.assertEqual(evidence.struck_keys is None, evidence.fewest is None)
        self.assertGreater(met, 50)

    def test_the_empty_file(self):
        evidence = self.check(SMALL, empty_file())
        self.assertEqual((evidence.fewest, evidence.struck_keys, evidence.ghosts), (0, (), ()))
        self.assertEqual(Evidence(rule=SMALL, file=empty_file()), evidence)

    def test_not_sound(self):
        store = Store(SMALL)
        for key in range(5):
            store.put(key, "x" * 9)
        for value in variants(store.file):
            right = model_file_fault(SMALL, value)
            if right is not None:
                with self.assertRaises(NotSound) as caught:
                    Evidence(SMALL, value)
                self.assertTrue(same((caught.exception.page, caught.exception.word), right))
        for value in ODD_VALUES:
            with self.assertRaises(NotSound) as caught:
                Evidence(SMALL, value)
            self.assertTrue(same((caught.exception.page, caught.exception.word), (-1, "form")))

    def test_of_stores(self):
        for made in (Store, CountingStore, GuardedStore, LoggedStore):
            store = made(SMALL)
            for key in range(9):
                store.put(key, "a" * key)
            store.strike(4)
            evidence = Evidence.of(store)
            self.assertEqual(evidence, Evidence(SMALL, store.file))
            kept = shown(evidence)
            store.strike_range(0, 9)
            self.assertEqual(shown(evidence), kept)
            self.assertNotEqual(Evidence.of(store=store), evidence)

    def test_nothing_can_be_assigned(self):
        evidence = Evidence(SMALL, empty_file())
        for name in ("rule", "tree", "levels", "shape", "table", "born", "commit", "ghosts", "fewest", "struck_keys"):
            with self.assertRaises(AttributeError):
                setattr(evidence, name, None)


class Equality(unittest.TestCase):
    def test_one_thing_otherwise(self):
        store = Store(SMALL)
        for key in (1, 5, 3):
            store.put(key, "v")
        evidence = Evidence.of(store)
        self.assertIs(evidence == Evidence(SMALL, store.file), True)
        # The commit and the numbers of the pages do not count.
        twice = store.twin()
        twice.put(1, "w" * 20)
        twice.put(1, "v")
        self.assertNotEqual(twice.file, store.file)
        self.assertIs(evidence == Evidence.of(twice), True)
        twice.put(1, "w")
        self.assertIs(evidence == Evidence.of(twice), False)
        # Another rule, with the same levels.
        self.assertIs(evidence == Evidence(Rule(2, 1, 3, 2), store.file), False)
        head = store.file[0]
        self.assertIs(evidence == Evidence(SMALL, (head[:2] + (1,),) + store.file[1:]), False)
        self.assertIs(evidence == Evidence(SMALL, (head[:2] + (0,),) + store.file[1:]), True)
        # Other levels with the same table.
        again = store.twin()
        again.strike(5)
        again.put(5, "v")
        self.assertEqual(again.table, store.table)
        self.assertEqual(Evidence.of(again) == evidence, again.levels == store.levels)
        up, down = Store(SMALL), Store(SMALL)
        for key in range(4):
            up.put(key, "v")
            down.put(3 - key, "v")
        self.assertEqual(up.table, down.table)
        self.assertNotEqual(up.levels, down.levels)
        self.assertIs(Evidence.of(up) == Evidence.of(down), False)
        for value in ODD_VALUES + [store, store.file, evidence.tree, evidence.table]:
            self.assertIs(evidence == value, False)


class Answers(unittest.TestCase):
    def evidences(self):
        for rng, rule, files in histories(RULES, 1, 30):
            for file in files[::6]:
                yield Evidence(rule, file)
        for tree in list(dense_trees())[::2]:
            yield Evidence(tree.rule, file_of(tree))

    def test_verdicts_and_papers(self):
        met = {}
        for evidence in self.evidences():
            tree, fault = evidence.tree, tree_fault(evidence.tree)
            verdict, paper = evidence.verdict(), evidence.paper()
            if fault is None:
                self.assertTrue(same(verdict, ("grown", order_of(tree))))
                self.assertTrue(same(paper, ("grown", leads(tree.rule, evidence.shape))))
                self.assertIs(evidence.shows(("order", verdict[1])), True)
            else:
                self.assertTrue(same(verdict, ("struck", fault, evidence.fewest)))
                self.assertIs(evidence.shows(("ungrown", verdict[1])), True)
                if paper[0] == "fewest":
                    self.assertTrue(same(paper, ("fewest", least_deeds(tree), strike_rows(tree))))
                else:
                    self.assertIsNone(evidence.fewest)
                    self.assertIn(paper[0], ("room", "fault"))
                self.assertIs(shows_strikes(tree, paper), True)
            self.assertIs(evidence.shows(paper), True)
            met[paper[0]] = met.get(paper[0], 0) + 1
        self.assertEqual(sorted(met), ["fault", "fewest", "grown", "room"])
        self.assertGreater(min(met.values()), 10)

    def model_shows(self, evidence, value):
        rule, tree, shape = evidence.rule, evidence.tree, evidence.shape
        if type(value) is tuple and len(value) == 2 and type(value[0]) is str:
            if value[0] == "order":
                return shows_order(tree, value[1])
            if value[0] == "grown":
                return shows_grown(rule, shape, value[1])
            if value[0] == "ungrown":
                return any(same(fault, value[1]) for fault in faults(rule, shape))
        return shows_strikes(tree, value)

    def test_shows(self):
        chosen = {}
        for evidence in self.evidences():
            if 3 < len(evidence) < 7:
                chosen.setdefault(evidence.paper()[0], evidence)
        self.assertEqual(sorted(chosen), ["fault", "fewest", "grown", "room"])
        for evidence in chosen.values():
            values = [evidence.paper(), ("order", evidence.tree.stored), ("grown", ())]
            values += [("ungrown", fault) for fault in faults(evidence.rule, evidence.shape)]
            verdict = evidence.verdict()
            if verdict[0] == "grown":
                values.append(("order", verdict[1]))
            met = {True: 0, False: 0}
            for value in values:
                for bent in [value, *variants(value)]:
                    right = self.model_shows(evidence, bent)
                    met[right] += 1
                    self.assertIs(evidence.shows(bent), right)
            self.assertGreater(met[True], 0)
            self.assertGreater(met[False], 200)
            for value in ODD_VALUES + [("order",), ("order", (), ()), ("grown",), ("ungrown", (), 0), ["order", ()]]:
                self.assertIs(evidence.shows(value), False)
                for word in ("order", "grown", "ungrown", "fewest", "room", "fault"):
                    right = self.model_shows(evidence, (word, value))
                    self.assertIs(evidence.shows(value=(word, value)), right)

    def test_papers_of_each_kind(self):
        store = Store(SMALL)
        self.assertEqual(Evidence.of(store).paper(), ("grown", ()))
        self.assertEqual(Evidence.of(store).verdict(), ("grown", ()))
        for key in (1, 2, 3):
            store.put(key, "")
        store.strike(3)
        evidence = Evidence.of(store)
        self.assertEqual(evidence.verdict(), ("struck", (1, 1, "few"), 1))
        self.assertEqual(evidence.paper()[2], (("leaf", 1, 1),))
        close = Evidence(Rule(2, 2, 2, 2), file_of(Tree(Rule(2, 2, 2, 2), (((5, 6),), ((1, 2), (5,), (6, 7))))))
        self.assertEqual(close.paper(), ("room", 1))
        self.assertTrue(same(close.verdict(), ("struck", (1, 1, "few"), None)))
        lead = Evidence(SMALL, file_of(Tree(SMALL, (((7,),), ((5,), (8, 9)), ((1, 2), (5,), (7,), (8,), (9,))))))
        self.assertEqual(lead.paper(), ("fault", (1, 1, "lead")))

    def test_too_long(self):
        rule = Rule(1, 1, 4, 4)
        tree = Tree.grown(rule, *range(0, 1230, 6))
        for key in tree.stored:
            tree = tree - key
        evidence = Evidence(rule, file_of(tree))
        self.assertGreater(2 * evidence.fewest, 400)
        with self.assertRaises(TooLong) as caught:
            evidence.paper()
        self.assertTrue(same(caught.exception.limit, 600))
        self.assertEqual(evidence.verdict()[2], evidence.fewest)


class Histories(unittest.TestCase):
    """What is promised of the evidence of long histories."""

    def test_long_histories(self):
        for number, rule in enumerate(RULES):
            rng = random.Random(number)
            store = CountingStore(rule)
            struck = {}
            with_strikes = number % 3 > 0
            for commit in range(1, 121):
                deed = random_deed(rng, store.table, range(60), rebuilds=0.01)
                if not with_strikes and deed[0] in ("strike", "strike range"):
                    continue
                store.do(deed)
                if deed[0] == "rebuild":
                    struck = {}
                for key in store.last[2]:
                    struck[key] = struck.get(key, 0) + 1
                if commit % 5 == 0:
                    self.check(store, struck)

    def check(self, store, struck):
        evidence = Evidence.of(store)
        total = sum(struck.values())
        self.assertEqual(store.struck, total)
        self.assertLessEqual(evidence.fewest, total)
        self.assertEqual([key for key in evidence.struck_keys if key not in struck], [])
        if total == 0:
            self.assertEqual(evidence.verdict()[0], "grown")
            self.assertEqual((evidence.fewest, evidence.ghosts, evidence.paper()[0]), (0, (), "grown"))
        self.assertTrue(set(evidence.ghosts) <= set(struck))


if __name__ == "__main__":
    unittest.main()
