import random
import unittest

from splitscar.commits import applied, entry_of
from splitscar.errors import Full, InvalidDeed, InvalidKey, InvalidValue, NoKey, NotRecoverable, WrongStep
from splitscar.falls import falls
from splitscar.images import empty_file
from splitscar.logged import LoggedStore
from splitscar.media import Media
from splitscar.packing import packed_levels
from splitscar.recovery import recovered
from splitscar.rules import Rule
from splitscar.store import CountingStore, Store

from tests.file_models import ModelFile, model_levels_of, random_deed
from tests.helpers import NO_KEYS, ODD_VALUES, RULES, same
from tests.test_media import torn_log

SMALL = Rule(2, 1, 2, 2)


def shown(store):
    """All that a store with a log shows."""
    names = ["rule", "file", "levels", "table", "commit", "born", "last", "media", "entries"]
    return [getattr(store, name) for name in names] + [repr(store), len(store)]


def filled(many=10):
    store = LoggedStore(SMALL)
    for key in range(many):
        store.put(key, "v" * (key % 12))
    return store


class Histories(unittest.TestCase):
    def test_behind_each_deed(self):
        for number, rule in enumerate(RULES):
            rng = random.Random(number)
            store, model, media, entries = LoggedStore(rule), ModelFile(rule), Media.blank(), []
            for commit in range(1, 36):
                deed = random_deed(rng, model.table(), range(25), rebuilds=0.04)
                before = model.file()
                model.do(deed, packed_levels(rule, tuple(key for key, _ in model.table())))
                self.assertTrue(same(store.do(deed), commit))
                entries.append(entry_of(rule, before, deed))
                media = media.wrote(entries[-1])
                self.held(store, model, media, entries)
                self.assertEqual(store.last, entries[-1])
                if rng.random() < 0.3 and media.dirty:
                    pages = rng.sample(media.dirty, rng.randrange(1, len(media.dirty) + 1))
                    self.assertIsNone(store.flush(*pages))
                    media = media.after(*[("flush", page) for page in pages])
                if rng.random() < 0.1:
                    self.assertIsNone(store.flush())
                    media = media.after(*[("flush", page) for page in media.dirty])
                if rng.random() < 0.1:
                    self.assertIsNone(store.checkpoint())
                    media = media.after(*media.checkpoint())
                self.held(store, model, media, entries)

    def held(self, store, model, media, entries):
        self.assertTrue(same(store.file, model.file()))
        self.assertEqual(store.levels, model_levels_of(store.file))
        self.assertEqual(store.table, model.table())
        self.assertTrue(same((store.commit, store.born), (model.commit, model.born)))
        self.assertEqual(store.media, media)
        self.assertEqual(recovered(store.media), store.file)
        self.assertTrue(same(store.media.log, media.log))
        self.assertTrue(same(store.entries, tuple(entries)))
        self.assertTrue(same(len(store), len(store.table)))
        many = len(store.table)
        self.assertEqual(repr(store), f"LoggedStore({many} records, {len(store.file)} pages)")

    def test_the_methods(self):
        store = LoggedStore(rule=SMALL)
        self.assertEqual(store.put(1, "a"), 1)
        self.assertEqual(store.put(2, "a" * 30), 2)
        self.assertEqual(store.strike(1), 3)
        self.assertEqual(store.strike_range(5, 3), 4)
        self.assertEqual(store.rebuild(), 5)
        self.assertEqual([entry[0] for entry in store.media.log], [1, 2, 3, 4, 5])
        self.assertEqual((store[2], 2 in store, 1 in store, list(store.scan(low=0))),
                         ("a" * 30, True, False, [(2, "a" * 30)]))
        self.assertTrue(same((LoggedStore.MOST_RECORDS, LoggedStore.MOST_TREE, LoggedStore.MOST_PAGES), (300, 400, 900)))
        self.assertIsInstance(store, Store)

    def test_the_empty_store(self):
        store = LoggedStore(SMALL)
        self.assertEqual((store.media, store.entries, store.last), (Media.blank(), (), None))
        self.assertEqual(store.file, empty_file())
        self.assertIsNone(store.flush())
        self.assertIsNone(store.checkpoint())
        self.assertEqual((store.media, store.commit), (Media.blank(), 0))

    def test_nothing_can_be_assigned(self):
        for name in ("media", "entries", "file", "last"):
            with self.assertRaises(AttributeError):
                setattr(filled(), name, None)

    def test_refused_deeds_write_nothing(self):
        store = filled()
        kept = shown(store)
        refused = [
            (lambda: store.put(None, ""), InvalidKey), (lambda: store.put(1, None), InvalidValue),
            (lambda: store.strike(77), NoKey), (lambda: store.strike(True), NoKey),
            (lambda: store.strike_range(1, "2"), InvalidKey), (lambda: store.do(("get", 1)), InvalidDeed),
            (lambda: store.do(("strike", 77)), NoKey),
        ]
        for work, error in refused:
            self.assertRaises(error, work)
            self.assertEqual(shown(store), kept)
        full = LoggedStore(Rule(8, 8, 8, 8))
        for key in range(300):
            full.put(key, "")
        kept = shown(full)
        self.assertRaises(Full, full.put, 300, "")
        self.assertEqual(shown(full), kept)


class Flushes(unittest.TestCase):
    def test_pages_in_order(self):
        store = filled()
        dirty = store.media.dirty
        media = store.media
        self.assertIsNone(store.flush(dirty[-1], dirty[0]))
        self.assertEqual(store.media, media.after(("flush", dirty[-1]), ("flush", dirty[0])))
        self.assertEqual(store.media.dirty, dirty[1:-1])
        self.assertIsNone(store.flush(dirty[2]))
        self.assertIsNone(store.flush())
        self.assertEqual(store.media.dirty, ())
        # The log keeps its entries, and flushing is no commit.
        self.assertEqual(store.media.log, store.entries)
        self.assertEqual((store.commit, len(store.entries), store.last), (10, 10, store.entries[-1]))

    def test_wrong_pages(self):
        store = filled()
        store.flush(1)
        dirty = store.media.dirty
        wrong = [(1,), (dirty[0], dirty[0]), (dirty[0], dirty[1], dirty[0]), (dirty[0], 1), (dirty[1], 899), (-1,)]
        wrong += [(value,) for value in ODD_VALUES if type(value) is not int or value not in dirty]
        wrong += [(*dirty, value) for value in [None, True, False, dirty[0], str(dirty[0]), (dirty[0],), 10 ** 40]]
        kept = shown(store)
        for pages in wrong:
            with self.assertRaises(WrongStep) as caught:
                store.flush(*pages)
            self.assertTrue(same(caught.exception.reason, "clean"))
            self.assertEqual(shown(store), kept)

    def test_a_bool_is_no_page(self):
        store = LoggedStore(SMALL)
        store.put(1, "a")
        self.assertEqual(store.media.dirty, (1, 2))
        self.assertRaises(WrongStep, store.flush, True)
        self.assertRaises(WrongStep, store.flush, 2, True)
        self.assertEqual(store.media.dirty, (1, 2))

    def test_checkpoints(self):
        store = filled()
        store.flush(store.media.dirty[0])
        entries = store.entries
        self.assertIsNone(store.checkpoint())
        self.assertEqual(store.media, Media.of(store.file))
        self.assertEqual((store.media.base, store.media.log), (10, ()))
        self.assertEqual((store.entries, store.commit, store.last), (entries, 10, entries[-1]))
        store.put(50, "")
        self.assertEqual((store.media.log, store.entries), ((store.last,), entries + (store.last,)))
        store.checkpoint()
        store.checkpoint()
        self.assertEqual(len(store.entries), 11)


class OfFiles(unittest.TestCase):
    def test_of(self):
        store = filled()
        store.rebuild()
        other = LoggedStore.of(SMALL, store.file)
        self.assertIs(type(other), LoggedStore)
        self.assertEqual(other, store)
        self.assertEqual((other.media, other.entries, other.last), (Media.of(store.file), (), None))
        self.assertEqual(other.put(99, ""), 12)
        self.assertEqual(other.entries, (other.last,))
        self.assertEqual(LoggedStore.of(file=store.file, rule=SMALL), store)
        self.assertEqual(recovered(other.media), other.file)

    def test_recover(self):
        for number, rule in enumerate(RULES[::2]):
            rng = random.Random(number)
            store = LoggedStore(rule)
            for commit in range(20):
                store.do(random_deed(rng, store.table, range(25)))
                if commit == 7:
                    store.checkpoint()
            store.flush(*rng.sample(store.media.dirty, len(store.media.dirty) // 2))
            for media in (store.media, torn_log(store.media)):
                other = LoggedStore.recover(rule, media)
                self.assertIs(type(other), LoggedStore)
                self.assertEqual(other, store)
                self.assertEqual((other.media, other.entries, other.last), (store.media, store.media.entries, None))
                self.assertEqual(other.entries[0][0], 9)
                self.assertEqual(other.put(77, ""), 21)
                self.assertEqual(other.entries, store.media.entries + (other.last,))
                self.assertEqual(recovered(other.media), other.file)
            self.assertEqual(LoggedStore.recover(media=store.media, rule=rule), store)

    def test_a_store_goes_on_behind_falls(self):
        for number, rule in enumerate(RULES[::3]):
            rng = random.Random(number)
            store, table = LoggedStore(rule), {}
            for _ in range(25):
                deed = random_deed(rng, store.table, range(25))
                entry = entry_of(rule, store.file, deed)
                left = list(falls(store.media, ("write", entry)))[rng.randrange(3)]
                if left.last == entry[0]:
                    table = {key: value for key, value in table.items() if key not in entry[2]}
                    if deed[0] == "put":
                        table[deed[1]] = deed[2]
                store = LoggedStore.recover(rule, left)
                self.assertEqual(store.table, tuple(sorted(table.items())))
                if store.media.dirty and rng.random() < 0.5:
                    page = rng.choice(store.media.dirty)
                    store = LoggedStore.recover(rule, list(falls(store.media, ("flush", page)))[1])
                    self.assertEqual(store.table, tuple(sorted(table.items())))
                if rng.random() < 0.1:
                    store.checkpoint()
                    self.assertEqual(store.media, Media.of(store.file))

    def test_not_recoverable(self):
        store = filled()
        store.checkpoint()
        for pages, least in [((1,), 1), ((3, 1), 1), ((4, 2), 2), ((0, 5), 0)]:
            with self.assertRaises(NotRecoverable) as caught:
                LoggedStore.recover(SMALL, store.media.damaged(*pages))
            self.assertTrue(same(caught.exception.page, least))


class Alike(unittest.TestCase):
    def busy(self, store):
        store.put(60, "x" * 30)
        store.checkpoint()
        store.strike(2)
        store.flush(1)
        store.rebuild()

    def test_twins(self):
        store = filled()
        store.flush(1)
        twin = store.twin()
        self.assertIs(type(twin), LoggedStore)
        self.assertEqual(shown(twin), shown(store))
        kept = shown(store)
        self.busy(twin)
        self.assertEqual(shown(store), kept)
        kept = shown(twin)
        store.checkpoint()
        store.strike(3)
        self.assertEqual(shown(twin), kept)
        self.assertEqual(twin.entries[:10], store.entries[:10])

    def test_trials(self):
        store = filled()
        store.flush(1)
        kept = shown(store)
        with store.trial() as held:
            self.assertIs(held, store)
            self.busy(store)
            self.assertNotEqual(shown(store), kept)
        self.assertEqual(shown(store), kept)
        for error in (NoKey, ZeroDivisionError):
            with self.assertRaises(error):
                with store.trial():
                    self.busy(store)
                    raise error(1)
            self.assertEqual(shown(store), kept)
        with self.assertRaises(WrongStep):
            with store.trial():
                store.checkpoint()
                store.flush(1)
        self.assertEqual(shown(store), kept)

    def test_tried(self):
        store = filled()
        kept = shown(store)
        self.assertEqual(store.tried(lambda held: (held.checkpoint(), held.put(90, ""), held.media.log)[1:2]), (11,))
        self.assertEqual(shown(store), kept)
        self.assertIsNone(store.tried(work=self.busy))
        self.assertEqual(shown(store), kept)

    def test_equality(self):
        store, other = filled(), filled()
        other.checkpoint()
        self.assertIs(store == other, True)
        plain = Store.of(SMALL, store.file)
        self.assertIs(store == plain, True)
        self.assertIs(plain == store, True)
        self.assertEqual(CountingStore.of(SMALL, store.file), store)
        other.put(3, "vvv")
        self.assertIs(store == other, False)
        self.assertNotEqual(LoggedStore(SMALL), LoggedStore(Rule(1, 2, 2, 2)))
        for value in ODD_VALUES + NO_KEYS + [store.media, store.file, SMALL]:
            self.assertIs(store == value, False)

    def test_files_are_those_of_other_stores(self):
        store, plain = LoggedStore(SMALL), Store(SMALL)
        rng = random.Random(9)
        for _ in range(40):
            deed = random_deed(rng, plain.table, range(30))
            self.assertEqual(store.do(deed), plain.do(deed))
            self.assertEqual(store.last, plain.last)
            self.assertEqual(store.file, plain.file)
        self.assertEqual(applied(empty_file(), *store.entries), plain.file)


if __name__ == "__main__":
    unittest.main()
