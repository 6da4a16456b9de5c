import itertools
import random
import unittest

from splitscar.backups import Backup, restored
from splitscar.errors import InvalidHands, InvalidJob, NoHand
from splitscar.hands import Crew, is_job
from splitscar.images import path_to
from splitscar.logged import LoggedStore
from splitscar.recovery import recovered
from splitscar.rules import Rule
from splitscar.serial import serial_fault, table_after
from splitscar.store import CountingStore, GuardedStore, Store

from tests.file_models import random_deed
from tests.hand_models import ModelCrew, plain_job, random_hands
from tests.helpers import ODD_VALUES, RULES, same
from tests.variants import variants

SMALL = Rule(2, 1, 2, 2)
JOBS = [
    ("put", 5, "abc"), ("put", -5, "x" * 40), ("strike", 3), ("strike range", 2, 9), ("strike range", 9, 2),
    ("rebuild",), ("get", 4), ("scan", 3, 8), ("scan", 8, 3),
]


def filled(made, rule, seed, many, keys=range(30)):
    rng = random.Random(seed)
    store = made(rule)
    for _ in range(many):
        store.do(random_deed(rng, store.table, keys))
    return store


def shown(crew):
    """All that a crew shows."""
    hands = range(len(crew))
    found = [crew.rows, crew.is_done, crew.ready, len(crew), repr(crew), crew.store.file]
    for work in (crew.job, crew.held, crew.wanted, crew.blockers, crew.ended):
        found += [work(hand) for hand in hands]
    return found


class Jobs(unittest.TestCase):
    def test_jobs(self):
        for job in JOBS:
            self.assertIs(is_job(job), True)
            self.assertIs(is_job(value=job), True)

    def test_one_thing_changed(self):
        met = {True: 0, False: 0}
        for job in JOBS:
            for value in variants(job):
                met[plain_job(value)] += 1
                self.assertIs(is_job(value), plain_job(value))
        self.assertGreater(min(met.values()), 50)

    def test_other_values(self):
        others = ODD_VALUES + JOBS[0:1] * 0 + [
            ("get",), ("get", 1, 2), ("get", None), ("get", True), ("get", 10 ** 15), ("get", "1"), ("scan", 1),
            ("scan", 1, 2, 3), ("scan", 1, None), ("scan", False, 2), ["get", 1], ("Get", 1), ("put", 1), ("take", 1, 2),
            ("get", (1,)), (("get", 1),), ("rebuild", 1), ((), 1), ([], 1), ({}, 1, 2),
        ]
        for value in others:
            self.assertIs(is_job(value), False)


class Making(unittest.TestCase):
    def test_how_many_hands(self):
        store = Store(SMALL)
        self.assertTrue(same((Crew.MOST_HANDS, Crew.MOST_JOBS), (4, 12)))
        for many in (0, 5, 6, 40):
            for hand in [(), None, [("get", 1)], 7]:
                with self.assertRaises(InvalidHands) as caught:
                    Crew(store, *[hand] * many)
                self.assertTrue(same(caught.exception.many, many))
        for many in (1, 2, 3, 4):
            crew = Crew(store, *[()] * many)
            self.assertTrue(same((len(crew), crew.is_done, crew.ready, crew.rows), (many, True, (), ())))
            self.assertEqual(repr(crew), f"Crew({many} hands, 0 rows)")
            self.assertIs(crew.store, store)

    def invalid(self, hands, hand, index):
        with self.assertRaises(InvalidJob) as caught:
            Crew(Store(SMALL), *hands)
        self.assertTrue(same((caught.exception.hand, caught.exception.index), (hand, index)))

    def test_wrong_hands(self):
        good = [("get", 1)] * 12
        for value in ODD_VALUES + ["get", ("get", 1), {0: ("get", 1)}]:
            if isinstance(value, (tuple, list)):
                continue
            self.invalid([value], 0, None)
            self.invalid([good, tuple(good), value], 2, None)
            self.invalid([good, value, value, [None]], 1, None)
        for many in (13, 14, 200):
            self.invalid([[("get", 1)] * many], 0, None)
            self.invalid([[], tuple([("get", 1)] * many)], 1, None)
            # Too many jobs come before a wrong one.
            self.invalid([[None] * many], 0, None)
        self.assertEqual(len(Crew(Store(SMALL), good, tuple(good))), 2)

    def test_wrong_jobs(self):
        good = [("get", 1)] * 11
        for value in ODD_VALUES + [("get", True), ("put", 1, None), [("get", 1)], ["rebuild"]]:
            for at in (0, 5, 11):
                jobs = good[:at] + [value] + good[at:]
                self.invalid([jobs], 0, at)
                self.invalid([(), tuple(jobs)], 1, at)
                self.invalid([jobs, None], 0, at)
                self.invalid([good, jobs, [None]], 1, at)
            self.invalid([[value, None]], 0, 0)
        # ("get", 1) as a hand is a tuple of two values that are no jobs.
        self.invalid([("get", 1)], 0, 0)

    def test_lists_are_copied(self):
        jobs, other = [("get", 1), ("put", 1, "a")], [("get", 2)]
        crew = Crew(Store(SMALL), jobs, other)
        jobs.append(None)
        jobs[0] = ("get", 99)
        other.clear()
        self.assertEqual([crew.job(0), crew.job(1)], [("get", 1), ("get", 2)])
        self.assertEqual([row[:3] for row in crew.run(()) if row[0] in ("told", "commit")],
                         [("told", 0, ("get", 1)), ("told", 1, ("get", 2)), ("commit", 0, ("put", 1, "a"))])
        self.assertEqual((jobs[1:], other), ([("put", 1, "a"), None], []))

    def test_no_hand(self):
        crew = Crew(filled(Store, SMALL, 1, 9), [("get", 1)], [("rebuild",)])
        crew.turn(0)
        kept = shown(crew)
        for value in ODD_VALUES + [2, 3, -1, 10 ** 50, "0", (0,)]:
            if type(value) is int and value in (0, 1):
                continue
            for work in (crew.job, crew.held, crew.wanted, crew.blockers, crew.ended, crew.turn):
                with self.assertRaises(NoHand) as caught:
                    work(value)
                self.assertTrue(same(caught.exception.hand, value))
                with self.assertRaises(NoHand):
                    work(hand=value)
            self.assertEqual(shown(crew), kept)

    def test_nothing_can_be_assigned(self):
        crew = Crew(Store(SMALL), ())
        for name in ("store", "rows", "is_done", "ready"):
            with self.assertRaises(AttributeError):
                setattr(crew, name, None)
        self.assertIs(crew == Crew(crew.store, ()), False)


class Schedules(unittest.TestCase):
    def held(self, crew, model):
        hands = range(len(model.hands))
        self.assertTrue(same(crew.rows[-1:], tuple(model.rows[-1:])))
        self.assertTrue(same(len(crew.rows), len(model.rows)))
        self.assertTrue(same(crew.store.file, model.file))
        self.assertTrue(same([crew.job(hand) for hand in hands], [model.job(hand) for hand in hands]))
        self.assertTrue(same([crew.held(hand) for hand in hands], [tuple(hand.pages) for hand in model.hands]))
        self.assertTrue(same([crew.wanted(hand) for hand in hands], [model.wanted(hand) for hand in hands]))
        self.assertTrue(same([crew.blockers(hand) for hand in hands], [model.blockers(hand) for hand in hands]))
        self.assertTrue(same([crew.ended(hand) for hand in hands], [tuple(hand.ended) for hand in model.hands]))
        self.assertTrue(same(crew.ready, model.ready()))
        is_done = not any(hand.jobs for hand in model.hands)
        self.assertIs(crew.is_done, is_done)
        self.assertEqual(repr(crew), f"Crew({len(model.hands)} hands, {len(model.rows)} rows)")
        # While a job is left some hand can go on.
        self.assertEqual(bool(crew.ready), not is_done)

    def drawn(self, rule, made, seed, **options):
        rng = random.Random(seed)
        store = filled(made, rule, seed, rng.choice([0, 3, 12, 40]))
        if made is GuardedStore:
            store.most = store.fewest + rng.randrange(2)
        keys = rng.choice([range(6), range(30)])
        hands = random_hands(rng, rng.randrange(2, 5), keys)
        most = store.most if made is GuardedStore else None
        crew, model = Crew(store, *hands), ModelCrew(rule, store.file, hands, most)
        return rng, store.twin(), crew, model

    def test_behind_each_turn(self):
        words = {}
        for number, rule in enumerate(RULES):
            for made in (Store, CountingStore, GuardedStore, LoggedStore):
                for seed in range(2):
                    rng, first, crew, model = self.drawn(rule, made, 1000 * seed + number)
                    self.held(crew, model)
                    while not crew.is_done:
                        hand = rng.randrange(len(crew)) if rng.random() < 0.5 else rng.choice(crew.ready)
                        self.assertTrue(same(crew.turn(hand), model.turn(hand)))
                        self.held(crew, model)
                        words[crew.rows[-1][0]] = words.get(crew.rows[-1][0], 0) + 1
                    self.assertTrue(same(crew.rows, tuple(model.rows)))
                    self.ended_well(first, crew)
        self.assertEqual(sorted(words), ["commit", "idle", "read", "refused", "take", "told", "wait"])
        self.assertGreater(min(words.values()), 50)

    def ended_well(self, store, crew):
        """What is promised of all rows: commits in order, answers of their moments."""
        table = store.table
        self.assertIsNone(serial_fault(table, crew.rows))
        self.assertEqual(table_after(table, crew.rows), crew.store.table)
        for row in crew.rows:
            if row[0] == "commit":
                self.assertEqual(store.do(row[2]), row[3])
                self.assertEqual(store.last[2], row[4])
        self.assertEqual(store.file, crew.store.file)
        self.assertEqual([crew.held(hand) for hand in range(len(crew))], [()] * len(crew))

    def test_flushes_checkpoints_and_backups_between_turns(self):
        """They do not touch the file, so the hands go on as if there were none."""
        for number, rule in enumerate(RULES):
            rng, first, crew, model = self.drawn(rule, LoggedStore, 900 + number)
            store, files = crew.store, {crew.store.commit: crew.store.file}
            backup = Backup(store)
            while not crew.is_done:
                hand = rng.choice(crew.ready)
                self.assertTrue(same(crew.turn(hand), model.turn(hand)))
                files[store.commit] = store.file
                if store.media.dirty and rng.random() < 0.4:
                    store.flush(rng.choice(store.media.dirty))
                if rng.random() < 0.1:
                    store.checkpoint()
                if backup.missing:
                    backup.fetch(rng.choice(backup.missing))
                self.held(crew, model)
                self.assertEqual(recovered(store.media), store.file)
            self.ended_well(first, crew)
            backup.fetch()
            self.assertEqual(restored(backup.finish()), files[store.commit])

    def test_only_ready_hands(self):
        for number, rule in enumerate(RULES):
            rng, first, crew, model = self.drawn(rule, Store, 77 + number)
            while not crew.is_done:
                hand = rng.choice(crew.ready)
                self.assertNotIn(crew.turn(hand)[0], ("wait", "idle"))
            self.ended_well(first, crew)

    def test_waits_and_idle_turns_change_nothing(self):
        for number, rule in enumerate(RULES[::2]):
            rng, first, crew, model = self.drawn(rule, Store, 300 + number)
            while not crew.is_done:
                for hand in range(len(crew)):
                    if hand not in crew.ready:
                        kept = shown(crew)
                        row = crew.turn(hand)
                        self.assertIn(row[0], ("wait", "idle"))
                        self.assertEqual(shown(crew)[1:4], kept[1:4])
                        self.assertEqual(shown(crew)[5:], kept[5:])
                crew.turn(rng.choice(crew.ready))

    def test_all_schedules_of_two_hands(self):
        pairs = [
            ([("put", 4, "new")], [("scan", 1, 9)]), ([("put", 4, "x" * 9)], [("put", 6, "b")]),
            ([("strike range", 2, 5)], [("scan", 1, 9)]), ([("rebuild",)], [("scan", 3, 7)]),
            ([("rebuild",)], [("put", 4, "")]), ([("strike", 3), ("get", 3)], [("put", 3, "b")]),
            ([("strike range", 1, 9)], [("strike range", 3, 9)]), ([("get", 5)], [("strike", 5)]),
        ]
        every = []
        for rule in (SMALL, Rule(1, 2, 2, 2), Rule(3, 1, 3, 2)):
            for many, hands in itertools.product((1, 3, 5), pairs):
                store = Store(rule)
                for key in range(1, 2 * many + 1, 2):
                    store.put(key, "v")
                met = self.all_from(store, hands, ())
                self.assertGreaterEqual(met, 2)
                every.append(met)
        self.assertGreater(sum(every), 1000)

    def all_from(self, store, hands, turns):
        """Goes all ways behind these turns; returns how many there are."""
        crew = Crew(store.twin(), *hands)
        for hand in turns:
            self.assertNotEqual(crew.turn(hand)[0], "wait")
        if crew.is_done:
            self.ended_well(store.twin(), crew)
            return 1
        self.assertTrue(crew.ready)
        return sum(self.all_from(store, hands, turns + (hand,)) for hand in crew.ready)


class Run(unittest.TestCase):
    def test_numbers_and_rounds(self):
        for number, rule in enumerate(RULES):
            rng = random.Random(number)
            store = filled(Store, rule, number, 20)
            hands = random_hands(rng, rng.randrange(1, 5), range(30))
            numbers = tuple(rng.randrange(len(hands)) for _ in range(rng.choice([0, 5, 60])))
            crew, model = Crew(store, *hands), ModelCrew(rule, store.file, hands)
            rounds = []
            for row in crew.run(numbers) if number % 2 else crew.run(numbers=numbers):
                if len(model.rows) < len(numbers):
                    model.turn(numbers[len(model.rows)])
                else:
                    rounds = rounds if any(model.hands[hand].jobs for hand in rounds) else list(range(len(hands)))
                    while not model.hands[rounds[0]].jobs:
                        rounds.pop(0)
                    model.turn(rounds.pop(0))
                self.assertTrue(same(row, model.rows[-1]))
                self.assertEqual(len(crew.rows), len(model.rows))
            self.assertTrue(crew.is_done)
            self.assertEqual(crew.store.file, model.file)

    def test_each_turn_is_made_when_it_is_asked_for(self):
        crew = Crew(Store(SMALL), [("put", 1, "a")], [("get", 1)])
        walk = crew.run((1, 1, 0))
        self.assertEqual(crew.rows, ())
        self.assertEqual(next(walk), ("take", 1, 0))
        self.assertEqual(len(crew.rows), 1)
        self.assertEqual(crew.turn(1), ("take", 1, 2))
        self.assertEqual(next(walk), ("told", 1, ("get", 1), None))
        self.assertEqual(list(walk), [("take", 0, 0), ("take", 0, 2), ("commit", 0, ("put", 1, "a"), 1, ())])
        self.assertEqual(list(crew.run(())), [])
        self.assertEqual(list(crew.run((1, 0))), [("idle", 1), ("idle", 0)])
        self.assertEqual(crew.rows[-2:], (("idle", 1), ("idle", 0)))

    def test_two_runs_by_turns(self):
        crew = Crew(Store(SMALL), [("get", 1)] * 2, [("get", 2)])
        first, second = crew.run((0, 0, 0)), crew.run(())
        rows = [next(first), next(second), next(second), next(first), next(second)]
        self.assertEqual(rows, [("take", 0, 0), ("take", 0, 2), ("take", 1, 0), ("told", 0, ("get", 1), None),
                                ("take", 0, 0)])
        rows += list(second) + list(first)
        self.assertTrue(crew.is_done)
        self.assertEqual(crew.rows, tuple(rows))

    def test_many_numbers(self):
        crew = Crew(Store(SMALL), [("get", 1)], [("get", 2)])
        rows = list(crew.run((0, 1) * 1000))
        self.assertEqual(len(rows), 2000)
        self.assertEqual(rows[6:], [("idle", 0), ("idle", 1)] * 997)

    def test_no_hand_makes_no_turn(self):
        crew = Crew(Store(SMALL), [("get", 1)])
        for value in (1, -1, True, None, "0", (0,)):
            with self.assertRaises(NoHand) as caught:
                next(crew.run((0, value, 5)))
            self.assertTrue(same(caught.exception.hand, value))
        self.assertEqual(crew.rows, ())


class Walks(unittest.TestCase):
    """Single hands, turn by turn."""

    def store(self, rule, *keys):
        store = Store(rule)
        for key in keys:
            store.put(key, f"v{key}")
        return store

    def to_leaf(self, crew, hand, file, key):
        """Takes the pages down to a leaf; returns them."""
        taken = [crew.turn(hand) for _ in range(1 + len(path_to(file, key)))]
        self.assertEqual(taken, [("take", hand, page) for page in (0, *path_to(file, key))])
        return path_to(file, key)

    def test_a_get(self):
        store = self.store(SMALL, *range(8))
        crew = Crew(store, [("get", 5), ("get", 50)])
        self.assertEqual((crew.wanted(0), crew.held(0), crew.job(0)), (0, (), ("get", 5)))
        self.assertEqual(crew.turn(0), ("take", 0, 0))
        self.assertEqual((crew.wanted(0), crew.held(0)), (store.file[0][1], (0,)))
        crew = Crew(store, [("get", 5), ("get", 50)])
        path = self.to_leaf(crew, 0, store.file, 5)
        self.assertEqual((crew.wanted(0), crew.held(0), crew.blockers(0)), (None, path[-1:], ()))
        self.assertEqual(crew.turn(0), ("told", 0, ("get", 5), "v5"))
        self.assertEqual((crew.wanted(0), crew.held(0), crew.job(0)), (0, (), ("get", 50)))
        self.to_leaf(crew, 0, store.file, 50)
        self.assertEqual(crew.turn(0), ("told", 0, ("get", 50), None))
        self.assertEqual((crew.wanted(0), crew.held(0), crew.job(0)), (None, (), None))
        self.assertEqual(crew.turn(0), ("idle", 0))
        self.assertEqual(crew.ended(0), (("told", 0, ("get", 5), "v5"), ("told", 0, ("get", 50), None)))

    def test_a_scan(self):
        store = self.store(SMALL, *range(8))
        leaves = [page for page in range(len(store.file)) if store.file[page][0] == "leaf"]
        crew = Crew(store, [("scan", 3, 5)])
        path = self.to_leaf(crew, 0, store.file, 3)
        self.assertEqual((crew.wanted(0), crew.ready), (None, (0,)))
        self.assertEqual(crew.turn(0), ("read", 0, ("scan", 3, 5), ((3, "v3"),)))
        right = store.file[path[-1]][2]
        self.assertIn(right, leaves)
        self.assertEqual((crew.wanted(0), crew.held(0)), (right, path[-1:]))
        self.assertEqual(crew.turn(0), ("take", 0, right))
        self.assertEqual((crew.wanted(0), crew.held(0)), (None, (right,)))
        rest = list(crew.run(()))
        self.assertEqual(rest[-1], ("told", 0, ("scan", 3, 5), ((3, "v3"), (4, "v4"), (5, "v5"))))

    def test_low_greater_than_high(self):
        store = self.store(SMALL, *range(8))
        for low, high in [(5, 4), (5, -9), (40, 3), (3, 2)]:
            crew = Crew(store.twin(), [("scan", low, high), ("strike range", low, high)])
            path = self.to_leaf(crew, 0, store.file, low)
            self.assertEqual(crew.turn(0), ("read", 0, ("scan", low, high), ()))
            self.assertEqual(crew.turn(0), ("told", 0, ("scan", low, high), ()))
            self.to_leaf(crew, 0, store.file, low)
            self.assertEqual(crew.held(0), path[-1:])
            self.assertEqual(crew.turn(0), ("commit", 0, ("strike range", low, high), 9, ()))
        # An empty leaf has no key greater than high, so the hand goes on to the right.
        store.strike_range(4, 5)
        crew = Crew(store, [("scan", 5, 4)])
        path = self.to_leaf(crew, 0, store.file, 5)
        self.assertEqual(store.file[path[-1]][1], ())
        self.assertEqual([row[0] for row in crew.run(())], ["read", "take", "read", "told"])

    def test_a_put_keeps_what_can_be_split(self):
        store = self.store(SMALL, *range(20))
        store.strike_range(3, 6)
        self.assertEqual(len(store.levels), 4)
        kept_counts = set()
        for key in range(-1, 21):
            crew = Crew(store.twin(), [("put", key, "new")])
            held = []
            for page in (0, *path_to(store.file, key)):
                self.assertEqual(crew.turn(0), ("take", 0, page))
                image = store.file[page]
                full = image[0] == "leaf" and len(image[1]) == 2 or image[0] == "inner" and len(image[2]) == 3
                held = held + [page] if full else [page]
                self.assertEqual(crew.held(0), tuple(held))
            kept_counts.add(len(held))
            self.assertEqual(crew.turn(0), ("commit", 0, ("put", key, "new"), 22, ()))
            self.assertEqual(crew.held(0), ())
        self.assertGreater(len(kept_counts), 1)

    def test_a_put_keeps_all_pages_up_to_page_0(self):
        # The root is full, and so is the leaf: all pages stay latched, also for a key that is there.
        store = self.store(Rule(2, 2, 2, 2), 1, 2, 3, 4, 5, 6, 7)
        self.assertEqual(store.levels, (((3, 5),), ((1, 2), (3, 4), (5, 6, 7))))
        for key in (7, 9):
            crew = Crew(store.twin(), [("put", key, "")], [("get", 1)])
            path = self.to_leaf(crew, 0, store.file, key)
            self.assertEqual(crew.held(0), (0, *path))
            self.assertEqual(crew.turn(1), ("wait", 1, 0))
            self.assertEqual(crew.blockers(1), (0,))
        # A leaf that is not full lets all pages go.
        crew = Crew(store.twin(), [("put", 0, "")])
        path = self.to_leaf(crew, 0, store.file, 0)
        self.assertEqual(crew.held(0), path[-1:])
        # A strike keeps none, also in a full leaf.
        crew = Crew(store.twin(), [("strike", 7)])
        path = self.to_leaf(crew, 0, store.file, 7)
        self.assertEqual(crew.held(0), path[-1:])

    def test_a_strike_range_keeps_its_leaves(self):
        store = self.store(SMALL, *range(8))
        crew = Crew(store, [("strike range", 2, 5)], [("scan", 0, 9)], [("get", 3)])
        path = self.to_leaf(crew, 0, store.file, 2)
        held = [path[-1]]
        while crew.wanted(0) is not None:
            self.assertEqual(crew.held(0), tuple(held))
            held.append(crew.wanted(0))
            self.assertEqual(crew.turn(0), ("take", 0, held[-1]))
        self.assertEqual(crew.held(0), tuple(held))
        self.assertEqual([store.file[page][1] for page in held],
                         [((2, "v2"), (3, "v3")), ((4, "v4"), (5, "v5")), ((6, "v6"), (7, "v7"))])
        for hand, key in ((1, 0), (2, 3)):
            while crew.turn(hand)[0] != "wait":
                pass
            self.assertEqual(crew.blockers(hand), (0,))
        self.assertEqual(crew.turn(0), ("commit", 0, ("strike range", 2, 5), 9, (2, 3, 4, 5)))
        self.assertEqual(crew.ready, (1, 2))

    def test_a_rebuild_waits(self):
        store = self.store(SMALL, *range(8))
        crew = Crew(store, [("rebuild",), ("get", 3)], [("get", 3)], [("get", 4)])
        crew.turn(1)
        # Page 0 is held, so it cannot be taken alone.
        self.assertEqual((crew.wanted(0), crew.blockers(0)), (0, (1,)))
        self.assertEqual(crew.turn(0), ("wait", 0, 0))
        crew.turn(1)
        self.assertEqual(crew.turn(0), ("take", 0, 0))
        self.assertEqual((crew.held(0), crew.wanted(0), crew.blockers(0)), ((0,), None, (1,)))
        self.assertEqual(crew.turn(0), ("wait", 0, None))
        self.assertEqual((crew.turn(2), crew.blockers(2)), (("wait", 2, 0), (0,)))
        self.assertEqual(crew.ready, (1,))
        while crew.job(1) is not None:
            crew.turn(1)
        self.assertEqual((crew.blockers(0), crew.ready), ((), (0,)))
        self.assertEqual(crew.turn(0), ("commit", 0, ("rebuild",), 9, ()))
        self.assertEqual(crew.held(0), ())

    def test_questions_share_and_deeds_do_not(self):
        store = self.store(SMALL, *range(8))
        crew = Crew(store, [("get", 3)], [("scan", 2, 2)], [("strike", 3)], [("get", 3)])
        for hand in (0, 1, 3):
            self.to_leaf(crew, hand, store.file, 3)
        while crew.turn(2)[0] != "wait":
            pass
        leaf = path_to(store.file, 3)[-1]
        self.assertEqual((crew.wanted(2), crew.blockers(2)), (leaf, (0, 1, 3)))
        self.assertEqual(crew.ready, (0, 1, 3))
        crew.turn(0)
        self.assertEqual(crew.blockers(2), (1, 3))
        crew.turn(3)
        crew.turn(1)
        crew.turn(1)
        self.assertEqual(crew.held(1), (leaf,) if crew.job(1) else ())
        while crew.job(1):
            crew.turn(1)
        self.assertEqual(crew.turn(2), ("take", 2, leaf))
        self.assertEqual(crew.turn(2), ("commit", 2, ("strike", 3), 9, (3,)))


class Refused(unittest.TestCase):
    def refused(self, store, job, word):
        kept = store.file
        crew = Crew(store, [job, ("get", 1)])
        rows = list(crew.run(()))
        row = ("refused", 0, job, word)
        self.assertIn(row, rows)
        self.assertEqual(crew.ended(0)[0], row)
        self.assertEqual(store.file, kept)
        self.assertEqual(rows[rows.index(row) + 1], ("take", 0, 0))

    def test_no_key(self):
        for made in (Store, CountingStore, GuardedStore, LoggedStore):
            self.refused(filled(made, SMALL, 3, 15), ("strike", 700), "NoKey")
            self.refused(made(SMALL), ("strike", 0), "NoKey")

    def test_full(self):
        for made in (Store, LoggedStore):
            store = made(Rule(8, 8, 8, 8))
            for key in range(300):
                store.put(key, "")
            self.refused(store, ("put", 300, ""), "Full")
            crew = Crew(store, [("put", 299, "b")])
            self.assertEqual(list(crew.run(()))[-1], ("commit", 0, ("put", 299, "b"), 301, ()))

    def test_a_rebuild_that_is_full(self):
        # The values take so many pages that the new tree beside the old one does not fit.
        store = Store(Rule(1, 2, 2, 2))
        for key in range(150):
            store.put(key, "x" * 32)
        crew = Crew(store, [("rebuild",)])
        self.assertEqual(list(crew.run(()))[-1], ("refused", 0, ("rebuild",), "Full"))

    def test_too_scarred(self):
        store = GuardedStore(SMALL, most=0)
        for key in range(1, 4):
            store.put(key, "")
        self.refused(store, ("strike", 3), "TooScarred")
        self.refused(store, ("strike range", 2, 9), "TooScarred")


if __name__ == "__main__":
    unittest.main()
