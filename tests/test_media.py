import random
import unittest

from splitscar.commits import applied, entry_of
from splitscar.errors import NotWritten, WrongStep
from splitscar.images import empty_file
from splitscar.media import Media
from splitscar.rules import Rule
from splitscar.store import Store

from tests.file_models import model_table, random_deed
from tests.helpers import ODD_VALUES, RULES, same

SMALL = Rule(2, 1, 2, 2)
TORN = ("torn",)


class Model:
    """Media by the words of [19], that change."""

    def __init__(self, file):
        self.pages = dict(enumerate(file))
        self.base = file[1][3]
        self.log = []

    def last_image(self, page):
        for entry in reversed(self.log):
            if entry != TORN and page in dict(entry[3]):
                return dict(entry[3])[page]
        return self.pages.get(page)

    def dirty(self):
        changed = {page for entry in self.log if entry != TORN for page, _ in entry[3]}
        return sorted(page for page in changed if self.last_image(page) != self.pages.get(page))

    def last(self):
        numbers = [entry[0] for entry in self.log if entry != TORN]
        return numbers[-1] if numbers else self.base

    def step(self, step):
        if step[0] == "write":
            self.log.append(step[1])
        elif step[0] == "flush":
            self.pages[step[1]] = self.last_image(step[1])
        else:
            self.base, self.log = self.last(), []


def entries_of(rule, seed, many, keys, file=None):
    rng = random.Random(seed)
    file, found = file or empty_file(), []
    for _ in range(many):
        found.append(entry_of(rule, file, random_deed(rng, model_table(file), keys)))
        file = applied(file, found[-1])
    return found


def torn_log(media):
    """The same media with a torn item at the end of the log."""
    latest = {page: image for entry in media.entries for page, image in entry[3]}
    return Media(media.pages, media.base, media.log + (TORN,), latest)


def shown(media):
    return (list(media.pages.items()), media.base, media.log, media.entries, media.last, media.dirty, repr(media))


class Steps(unittest.TestCase):
    def held(self, media, model):
        self.assertTrue(same(media.pages, {page: model.pages[page] for page in sorted(model.pages)}))
        self.assertEqual(list(media.pages), sorted(model.pages))
        self.assertTrue(same(media.base, model.base))
        self.assertTrue(same(media.log, tuple(model.log)))
        self.assertTrue(same(media.entries, tuple(entry for entry in model.log if entry != TORN)))
        self.assertTrue(same(media.last, model.last()))
        self.assertTrue(same(media.dirty, tuple(model.dirty())))
        many = len(media.entries)
        self.assertEqual(repr(media), f"Media({len(model.pages)} pages, {many} entries, {len(model.dirty())} dirty)")

    def test_random_steps(self):
        for number, rule in enumerate(RULES):
            rng = random.Random(number)
            entries = entries_of(rule, number, 40, range(20))
            media, model = Media.blank(), Model(empty_file())
            while entries:
                luck = rng.random()
                if luck < 0.45:
                    step = ("write", entries.pop(0))
                    made = media.wrote(step[1])
                elif luck < 0.9 and media.dirty:
                    step = ("flush", rng.choice(media.dirty))
                    made = media.flushed(step[1])
                elif not media.dirty:
                    step = ("cut",)
                    made = media.cut()
                else:
                    continue
                kept = shown(media)
                self.assertEqual(media.after(step), made)
                self.assertEqual(shown(media), kept)
                media = made
                model.step(step)
                self.held(media, model)

    def test_blank_and_of(self):
        media = Media.blank()
        self.assertTrue(same(shown(media), (
            [(0, ("head", 2, 0)), (1, ("space", 3, (), 0)), (2, ("leaf", (), None))], 0, (), (), 0, (),
            "Media(3 pages, 0 entries, 0 dirty)",
        )))
        store = Store(SMALL)
        for key in range(9):
            store.put(key, "123456789")
        media = Media.of(store.file)
        self.assertEqual(tuple(media.pages.values()), store.file)
        self.assertTrue(same((media.base, media.log, media.last, media.dirty), (9, (), 9, ())))
        self.assertEqual(Media.of(file=store.file), media)
        self.assertEqual(Media.of(empty_file()), Media.blank())

    def test_after(self):
        entries = entries_of(SMALL, 1, 6, range(6))
        media = Media.blank()
        self.assertEqual(media.after(), media)
        steps = [("write", entry) for entry in entries]
        written = media.after(*steps)
        self.assertEqual(written.log, tuple(entries))
        self.assertEqual(media, Media.blank())
        clean = written.after(*[("flush", page) for page in written.dirty])
        self.assertEqual(clean.dirty, ())
        self.assertEqual(clean.log, tuple(entries))
        cut = clean.after(("cut",))
        self.assertEqual((cut.log, cut.base, cut.last), ((), 6, 6))
        self.assertEqual(cut, Media.of(applied(empty_file(), *entries)))
        more = entries_of(SMALL, 2, 1, range(6), applied(empty_file(), *entries))
        self.assertEqual(cut.after(("write", more[0])).last, 7)

    def test_checkpoints(self):
        for rule in RULES[::4]:
            entries = entries_of(rule, 5, 30, range(15))
            media = Media.blank()
            for start in range(0, 30, 10):
                media = media.after(*[("write", entry) for entry in entries[start:start + 10]])
                steps = media.checkpoint()
                right = tuple(("flush", page) for page in media.dirty) + (("cut",),)
                self.assertTrue(same(steps, right))
                self.assertTrue(same(torn_log(media).checkpoint(), right))
                media = media.after(*steps)
                self.assertEqual(media, Media.of(applied(empty_file(), *entries[:start + 10])))
        self.assertTrue(same(Media.blank().checkpoint(), (("cut",),)))
        self.assertEqual(Media.blank().cut(), Media.blank())

    def test_a_page_that_is_as_it_was_is_not_dirty(self):
        store = Store(SMALL)
        media = Media.blank()
        store.put(1, "a")
        media = media.wrote(store.last)
        self.assertEqual(media.dirty, (1, 2))
        store.strike(1)
        media = media.wrote(store.last)
        # The leaf is empty again, as it is on the media.
        self.assertEqual(media.dirty, (1,))
        self.assertRaises(WrongStep, media.flushed, 2)


class Wrong(unittest.TestCase):
    def setUp(self):
        self.entries = entries_of(SMALL, 3, 8, range(6))
        self.media = Media.blank().after(*[("write", entry) for entry in self.entries[:4]])

    def wrong(self, media, reason, step, method):
        kept = shown(media)
        for work in (lambda: media.after(step), method):
            with self.assertRaises(WrongStep) as caught:
                work()
            self.assertTrue(same(caught.exception.reason, reason))
            self.assertEqual(shown(media), kept)

    def test_writes(self):
        for entry in self.entries[:4] + self.entries[5:]:
            self.wrong(self.media, "commit", ("write", entry), lambda: self.media.wrote(entry))
        for entry in self.entries:
            torn = torn_log(self.media)
            self.wrong(torn, "torn", ("write", entry), lambda: torn.wrote(entry))
        for value in ODD_VALUES + [TORN, self.entries[4][:3], list(self.entries[4]), (5, ("rebuild",), (), ())]:
            self.wrong(self.media, "commit", ("write", value), lambda: self.media.wrote(value))
        self.assertEqual(self.media.wrote(entry=self.entries[4]).last, 5)

    def test_flushes(self):
        dirty = self.media.dirty
        for value in ODD_VALUES + [-1, 899, 10 ** 50, (dirty[0],), [dirty[0]], str(dirty[0])]:
            if type(value) is int and value in dirty:
                continue
            self.wrong(self.media, "clean", ("flush", value), lambda: self.media.flushed(value))
        for page in dirty:
            flushed = self.media.flushed(page=page)
            self.wrong(flushed, "clean", ("flush", page), lambda: flushed.flushed(page))
        # A torn log does not hinder a flush.
        torn = torn_log(self.media)
        self.assertEqual(torn.flushed(dirty[0]).dirty, dirty[1:])
        self.wrong(torn.flushed(dirty[0]), "clean", ("flush", dirty[0]), lambda: torn.flushed(dirty[0]).flushed(dirty[0]))

    def test_cuts(self):
        self.wrong(self.media, "dirty", ("cut",), self.media.cut)
        torn = torn_log(self.media)
        self.wrong(torn, "torn", ("cut",), torn.cut)
        clean = torn.after(*torn.checkpoint()[:-1])
        self.assertEqual(clean.dirty, ())
        self.wrong(clean, "torn", ("cut",), clean.cut)

    def test_the_first_wrong_step(self):
        steps = [("write", self.entries[4]), ("flush", 1), ("flush", 1), ("cut",)]
        kept = shown(self.media)
        with self.assertRaises(WrongStep) as caught:
            self.media.after(*steps)
        self.assertEqual(caught.exception.reason, "clean")
        self.assertEqual(shown(self.media), kept)

    def test_torn_logs(self):
        torn = torn_log(self.media)
        self.assertEqual(torn.entries, self.media.entries)
        self.assertEqual(torn.log, self.media.log + (TORN,))
        self.assertEqual((torn.last, torn.base, torn.dirty), (4, 0, self.media.dirty))
        self.assertEqual(repr(torn), repr(self.media))
        alone = torn_log(Media.blank())
        self.assertEqual((alone.log, alone.entries, alone.last), ((TORN,), (), 0))
        self.wrong(alone, "torn", ("cut",), alone.cut)
        self.wrong(alone, "torn", ("write", self.entries[0]), lambda: alone.wrote(self.entries[0]))
        self.assertNotEqual(torn, self.media)


class Damaged(unittest.TestCase):
    def setUp(self):
        store = Store(SMALL)
        for key in range(7):
            store.put(key, "12345678" * (key % 3))
        self.media = Media.of(store.file)
        store.put(7, "")
        self.later = self.media.wrote(store.last)

    def test_damaged(self):
        for media in (self.media, self.later):
            kept = shown(media)
            self.assertEqual(media.damaged(), media)
            damaged = media.damaged(0, 3, 3, 5)
            self.assertEqual(damaged.pages, {**media.pages, 0: TORN, 3: TORN, 5: TORN})
            self.assertEqual(list(damaged.pages), list(media.pages))
            self.assertEqual((damaged.base, damaged.log), (media.base, media.log))
            self.assertNotEqual(damaged, media)
            self.assertEqual(shown(media), kept)
            self.assertEqual(damaged.damaged(3), damaged)

    def test_damaged_pages_are_dirty_only_by_an_entry(self):
        self.assertEqual(self.media.damaged(0, 1, 2).dirty, ())
        page = self.later.dirty[0]
        self.assertEqual(self.later.damaged(page).dirty, self.later.dirty)
        flushed = self.later.flushed(page)
        self.assertNotIn(page, flushed.dirty)
        self.assertIn(page, flushed.damaged(page).dirty)
        self.assertEqual(flushed.damaged(page).flushed(page), flushed)

    def test_not_written(self):
        many = len(self.media.pages)
        fresh = [page for page in self.later.dirty if page >= many]
        for value in [many, -1, None, True, False, "0", (0,), [0], {0: 1}, 10 ** 40] + fresh:
            for pages in [(value,), (0, value), (value, many + 5), (0, value, value)]:
                kept = shown(self.later)
                with self.assertRaises(NotWritten) as caught:
                    self.later.damaged(*pages)
                self.assertTrue(same(caught.exception.page, value))
                self.assertEqual(shown(self.later), kept)


class Values(unittest.TestCase):
    def test_equality(self):
        entries = entries_of(SMALL, 6, 3, range(5))
        first = Media.blank().wrote(entries[0])
        self.assertIs(first == Media.blank().wrote(entries[0]), True)
        self.assertIs(first == Media.blank(), False)
        self.assertIs(first == first.flushed(1), False)
        second = first.after(*first.checkpoint())
        self.assertEqual(second, Media.of(applied(empty_file(), entries[0])))
        self.assertNotEqual(second.base, Media.blank().base)
        other = Media(first.pages, 7, first.log, {})
        self.assertEqual((other.pages, other.log), (first.pages, first.log))
        self.assertIs(first == other, False)
        # The order in which pages were written does not count.
        both = first.after(("flush", 1), ("flush", 2))
        self.assertEqual(both, first.after(("flush", 2), ("flush", 1)))
        for value in ODD_VALUES + [empty_file(), first.pages, Store(SMALL)]:
            self.assertIs(first == value, False)

    def test_the_dict_belongs_to_the_caller(self):
        media = Media.blank()
        pages = media.pages
        pages[2] = TORN
        pages[7] = ("free",)
        self.assertEqual(media, Media.blank())
        self.assertEqual(len(media.pages), 3)
        self.assertIsNot(media.pages, media.pages)

    def test_nothing_can_be_assigned(self):
        for name in ("pages", "base", "log", "entries", "last", "dirty"):
            with self.assertRaises(AttributeError):
                setattr(Media.blank(), name, None)

    def test_new_pages_come_in_order(self):
        store = Store(SMALL)
        store.put(1, "x" * 40)
        media = Media.blank().wrote(store.last)
        self.assertEqual(media.dirty, (1, 2, 3, 4, 5, 6, 7))
        media = media.after(("flush", 7), ("flush", 3), ("flush", 1))
        self.assertEqual(list(media.pages), [0, 1, 2, 3, 7])


if __name__ == "__main__":
    unittest.main()
