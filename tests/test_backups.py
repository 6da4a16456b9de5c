import random
import unittest

from splitscar.backups import Backup, restored
from splitscar.errors import LogGap, NotFinished, NotWritten, TooEarly, WrongStep
from splitscar.images import empty_file
from splitscar.logged import LoggedStore
from splitscar.media import Media
from splitscar.rules import Rule

from tests.file_models import random_deed
from tests.helpers import ODD_VALUES, RULES, same

SMALL = Rule(2, 1, 2, 2)


class Busy:
    """A store with a log at which things are done at random, and its files behind all commits."""

    def __init__(self, rule, seed):
        self.rng = random.Random(seed)
        self.store = LoggedStore(rule)
        self.files = {0: self.store.file}

    def deed(self):
        self.store.do(random_deed(self.rng, self.store.table, range(25)))
        self.files[self.store.commit] = self.store.file

    def step(self):
        luck, dirty = self.rng.random(), self.store.media.dirty
        if luck < 0.5:
            self.deed()
        elif luck < 0.9 and dirty:
            self.store.flush(*self.rng.sample(dirty, self.rng.randrange(1, len(dirty) + 1)))
        elif luck > 0.95:
            self.store.checkpoint()

    def steps(self, many):
        for _ in range(many):
            self.step()


def copied(store):
    """A finished backup of a store as it is."""
    backup = Backup(store)
    backup.fetch()
    return backup.finish()


class Backups(unittest.TestCase):
    def check(self, busy, told, start, end):
        """Every file from the end on can be restored."""
        self.assertIs(type(told), tuple)
        self.assertTrue(same(told[:2], (start, end)))
        self.assertTrue(same(told[3], busy.store.entries[start:end]))
        self.assertEqual([entry[0] for entry in told[3]], list(range(start + 1, end + 1)))
        self.assertTrue(same(restored(told), busy.files[end]))
        self.assertTrue(same(restored(told, upto=end), busy.files[end]))
        self.assertTrue(same(restored(told, busy.store.entries, upto=None), busy.files[end]))

    def check_all(self, busy, told):
        entries = list(busy.store.entries)
        for number in range(told[1], busy.store.commit + 1):
            busy.rng.shuffle(entries)
            some = tuple(entries + busy.rng.sample(entries, len(entries) // 3))
            self.assertTrue(same(restored(told, some, upto=number), busy.files[number]))

    def test_copies_between_deeds(self):
        for number, rule in enumerate(RULES):
            busy = Busy(rule, number)
            busy.steps(busy.rng.randrange(20))
            backup = Backup(busy.store)
            start = busy.store.commit
            pages = list(range(len(busy.store.file)))
            self.assertEqual(busy.store.media, Media.of(busy.store.file))
            self.assertTrue(same((backup.started, backup.missing), (start, tuple(pages))))
            busy.rng.shuffle(pages)
            met, images = [], {}
            while backup.missing:
                busy.steps(busy.rng.randrange(3))
                some = pages[len(met):len(met) + busy.rng.randrange(1, 4)]
                again = busy.rng.sample(met, min(len(met), busy.rng.randrange(2)))
                self.assertIsNone(backup.fetch(*some, *again))
                images.update({page: busy.store.media.pages[page] for page in some + again})
                met += some
                self.assertEqual(backup.missing, tuple(sorted(set(pages) - set(met))))
            self.assertTrue(same(backup.started, start))
            busy.steps(3)
            told = backup.finish()
            self.assertEqual(told[2], tuple(images[page] for page in sorted(images)))
            self.check(busy, told, start, busy.store.commit)
            busy.steps(12)
            self.check_all(busy, told)
            # Finished again later, there are more entries and a later end.
            later = backup.finish()
            self.assertEqual(later[2], told[2])
            self.check(busy, later, start, busy.store.commit)
            self.assertEqual(later[3][:len(told[3])], told[3])

    def test_several_at_once(self):
        for number, rule in enumerate(RULES[::3]):
            busy = Busy(rule, number + 50)
            backups = []
            for _ in range(3):
                busy.steps(10)
                backups.append((Backup(busy.store), busy.store.commit))
                for backup, start in backups:
                    for page in busy.rng.sample(backup.missing, len(backup.missing) // 2):
                        backup.fetch(page)
                        busy.step()
            for backup, start in backups:
                backup.fetch()
                busy.steps(4)
            for backup, start in backups:
                self.check(busy, backup.finish(), start, busy.store.commit)
            told = [backup.finish() for backup, start in backups]
            busy.steps(8)
            for one in told:
                self.check_all(busy, one)

    def test_entries_that_a_checkpoint_removes(self):
        busy = Busy(SMALL, 1)
        for _ in range(6):
            busy.deed()
        backup = Backup(busy.store)
        for _ in range(5):
            busy.deed()
            busy.store.checkpoint()
        backup.fetch()
        told = backup.finish()
        self.assertEqual(busy.store.media.log, ())
        self.check(busy, told, 6, 11)
        self.assertEqual(len(told[3]), 5)

    def test_copies_are_those_of_the_media(self):
        busy = Busy(SMALL, 2)
        for _ in range(9):
            busy.deed()
        backup = Backup(busy.store)
        before = busy.store.media.pages
        for _ in range(4):
            busy.deed()
        backup.fetch(1)
        busy.store.flush(1)
        backup.fetch()
        told = backup.finish()
        # Page 1 was copied before its flush, the others are as the checkpoint left them.
        self.assertEqual(told[2], tuple(before.values()))
        backup.fetch(1)
        self.assertEqual(backup.finish()[2][1], busy.store.media.pages[1])
        busy.store.checkpoint()
        backup.fetch(*range(len(before)))
        self.assertEqual(backup.finish()[2], busy.store.file[:len(before)])
        self.check(busy, backup.finish(), 9, 13)

    def test_the_empty_store(self):
        backup = Backup(store=LoggedStore(SMALL))
        self.assertTrue(same((backup.started, backup.missing), (0, (0, 1, 2))))
        backup.fetch(2, 0)
        self.assertTrue(same(backup.missing, (1,)))
        backup.fetch()
        self.assertTrue(same(backup.finish(), (0, 0, empty_file(), ())))
        self.assertTrue(same(restored(backup=backup.finish()), empty_file()))
        backup.fetch()
        self.assertEqual(backup.missing, ())

    def test_stores_of_files_and_recovered_ones(self):
        busy = Busy(SMALL, 3)
        for _ in range(9):
            busy.deed()
        for store in (LoggedStore.of(SMALL, busy.store.file), LoggedStore.recover(SMALL, busy.store.media)):
            backup = Backup(store)
            self.assertEqual(backup.started, 9)
            store.put(77, "x" * 20)
            backup.fetch()
            told = backup.finish()
            self.assertEqual((told[:2], [entry[0] for entry in told[3]]), ((9, 10), [10]))
            self.assertEqual(restored(told), store.file)

    def test_a_restored_file_goes_on(self):
        busy = Busy(SMALL, 4)
        for _ in range(9):
            busy.deed()
        told = copied(busy.store)
        busy.deed()
        store = LoggedStore.of(SMALL, restored(told))
        store.do(busy.store.last[1])
        self.assertEqual(store, busy.store)


class Wrong(unittest.TestCase):
    def setUp(self):
        self.busy = Busy(SMALL, 5)
        for _ in range(8):
            self.busy.deed()

    def test_not_written(self):
        backup = Backup(self.busy.store)
        many = len(self.busy.store.file)
        while len(self.busy.store.file) == many:
            self.busy.deed()
        self.busy.store.checkpoint()
        backup.fetch(3)
        kept = backup.missing
        # A page that came later is none to be copied.
        values = [value for value in ODD_VALUES if type(value) is not int or not 0 <= value < many]
        for value in values + [many, -1, 10 ** 40, "1", (1,), None]:
            for pages in [(value,), (0, value), (value, many + 3), (0, 1, value, None), (3, value)]:
                with self.assertRaises(NotWritten) as caught:
                    backup.fetch(*pages)
                self.assertTrue(same(caught.exception.page, value))
                self.assertEqual(backup.missing, kept)
        with self.assertRaises(NotWritten) as caught:
            backup.fetch(0, many, None)
        self.assertTrue(same(caught.exception.page, many))

    def test_a_wrong_page_copies_nothing(self):
        backup = Backup(self.busy.store)
        backup.fetch()
        told = backup.finish()
        self.busy.deed()
        self.busy.store.checkpoint()
        self.assertRaises(NotWritten, backup.fetch, 1, 2, None)
        self.assertEqual(backup.finish()[2], told[2])
        backup.fetch(1)
        self.assertNotEqual(backup.finish()[2], told[2])

    def test_not_finished(self):
        backup = Backup(self.busy.store)
        pages = list(backup.missing)
        self.busy.rng.shuffle(pages)
        while pages:
            with self.assertRaises(NotFinished) as caught:
                backup.finish()
            self.assertTrue(same(caught.exception.page, min(pages)))
            backup.fetch(pages.pop())
        self.assertEqual(backup.finish()[:2], (8, 8))

    def test_nothing_can_be_assigned(self):
        for name in ("started", "missing"):
            with self.assertRaises(AttributeError):
                setattr(Backup(self.busy.store), name, None)

    def test_too_early(self):
        told = copied(self.busy.store)
        for number in (7, 1, 0, -1, -10 ** 40):
            with self.assertRaises(TooEarly) as caught:
                restored(told, upto=number)
            self.assertTrue(same(caught.exception.number, number))
            with self.assertRaises(TooEarly):
                restored(told, self.busy.store.entries, upto=number)
        backup = Backup(self.busy.store)
        self.busy.deed()
        backup.fetch()
        # The start is before the end, so it is too early, too.
        self.assertRaises(TooEarly, restored, backup.finish(), upto=8)
        self.assertEqual(restored(backup.finish(), upto=9), self.busy.store.file)

    def test_log_gaps(self):
        told = copied(self.busy.store)
        for _ in range(6):
            self.busy.deed()
        entries = self.busy.store.entries
        self.assertEqual(restored(told, entries[8:], upto=14), self.busy.files[14])
        for upto in (15, 16, 10 ** 40):
            with self.assertRaises(LogGap) as caught:
                restored(told, entries, upto=upto)
            self.assertTrue(same(caught.exception.number, 15))
        for missing in range(9, 15):
            some = tuple(entry for entry in entries if entry[0] != missing)
            for upto in range(8, 15):
                if upto < missing:
                    self.assertEqual(restored(told, some, upto=upto), self.busy.files[upto])
                else:
                    with self.assertRaises(LogGap) as caught:
                        restored(told, some, upto=upto)
                    self.assertTrue(same(caught.exception.number, missing))
        with self.assertRaises(LogGap) as caught:
            restored(told, (), upto=9)
        self.assertTrue(same(caught.exception.number, 9))
        with self.assertRaises(LogGap) as caught:
            restored(backup=told, entries=entries[:9] * 2, upto=11)
        self.assertEqual(caught.exception.number, 10)
        with self.assertRaises(TypeError):
            restored(told, entries, 9)

    def test_a_backup_is_no_commit(self):
        kept = (self.busy.store.commit, self.busy.store.file, self.busy.store.entries, self.busy.store.last)
        backup = Backup(self.busy.store)
        backup.fetch()
        backup.finish()
        store = self.busy.store
        self.assertEqual((store.commit, store.file, store.entries, store.last), kept)
        self.assertRaises(WrongStep, store.flush, 1)


if __name__ == "__main__":
    unittest.main()
