import random
import unittest

from splitscar.errors import WrongStep
from splitscar.falls import falls
from splitscar.images import empty_file
from splitscar.media import Media
from splitscar.rules import Rule

from tests.helpers import ODD_VALUES, RULES, same
from tests.test_media import TORN, entries_of, shown, torn_log

SMALL = Rule(2, 1, 2, 2)


def torn_page(media, page):
    """The same media with a torn image of a page, which need not be written."""
    latest = {number: image for entry in media.entries for number, image in entry[3]}
    return Media({**media.pages, page: TORN}, media.base, media.log, latest)


def right_falls(media, step):
    """What a fall during a step can leave, by the words of [20]."""
    if step[0] == "write":
        return [media, torn_log(media), media.wrote(step[1])]
    if step[0] == "flush":
        return [media, torn_page(media, step[1]), media.flushed(step[1])]
    return [media, media.cut()]


class Falls(unittest.TestCase):
    def check(self, media, step):
        kept = shown(media)
        found = list(falls(media, step))
        right = right_falls(media, step)
        self.assertEqual([shown(one) for one in found], [shown(one) for one in right])
        self.assertTrue(all(one == other for one, other in zip(found, right)))
        self.assertTrue(all(type(one) is Media for one in found))
        self.assertEqual(shown(media), kept)
        return found

    def test_random_steps(self):
        for number, rule in enumerate(RULES):
            rng = random.Random(number)
            entries, media = entries_of(rule, number, 25, range(20)), Media.blank()
            while entries:
                luck = rng.random()
                if luck < 0.4:
                    step = ("write", entries.pop(0))
                elif luck < 0.9 and media.dirty:
                    step = ("flush", rng.choice(media.dirty))
                elif not media.dirty:
                    step = ("cut",)
                else:
                    continue
                media = self.check(media, step)[-1]

    def test_each_step(self):
        entry = entries_of(SMALL, 1, 1, range(3))[0]
        found = self.check(Media.blank(), ("write", entry))
        self.assertEqual([one.log for one in found], [(), (TORN,), (entry,)])
        found = self.check(found[-1], ("flush", 2))
        self.assertEqual([one.pages[2] for one in found], [("leaf", (), None), TORN, dict(entry[3])[2]])
        self.assertEqual([one.dirty for one in found], [(1, 2), (1, 2), (1,)])
        found = self.check(found[-1].flushed(1), ("cut",))
        self.assertEqual([(one.base, one.log) for one in found], [(0, (entry,)), (1, ())])
        # Without entries the media before and after a cut are the same; still there are both.
        self.assertEqual(self.check(Media.blank(), ("cut",)), [Media.blank(), Media.blank()])

    def test_a_new_page(self):
        entries = entries_of(SMALL, 2, 4, range(90))
        media = Media.blank().after(*[("write", entry) for entry in entries])
        fresh = [page for page in media.dirty if page not in media.pages]
        self.assertTrue(fresh)
        for page in fresh:
            found = self.check(media, ("flush", page))
            self.assertEqual([page in one.pages for one in found], [False, True, True])
            self.assertEqual(list(found[1].pages), sorted([*media.pages, page]))

    def test_a_torn_log(self):
        entries = entries_of(SMALL, 3, 3, range(9))
        torn = torn_log(Media.blank().after(*[("write", entry) for entry in entries]))
        for page in torn.dirty:
            found = self.check(torn, ("flush", page))
            self.assertTrue(all(one.log == torn.log for one in found))

    def test_torn_pages(self):
        entries = entries_of(SMALL, 4, 6, range(9))
        media = Media.blank().after(*[("write", entry) for entry in entries[:5]])
        for page in media.dirty:
            torn = torn_page(media, page)
            self.assertEqual(self.check(torn, ("flush", page))[0].pages[page], TORN)
            self.assertEqual(self.check(torn, ("flush", page))[-1], media.flushed(page))
            self.assertEqual(len(self.check(torn, ("write", entries[5]))), 3)
        damaged = Media.blank().damaged(2)
        self.assertEqual(len(self.check(damaged, ("cut",))), 2)

    def test_wrong_steps(self):
        entries = entries_of(SMALL, 5, 4, range(9))
        media = Media.blank().after(*[("write", entry) for entry in entries[:2]])
        torn = torn_log(media)
        wrong = [
            (media, ("write", entries[3]), "commit"), (media, ("write", entries[1]), "commit"),
            (torn, ("write", entries[2]), "torn"), (torn, ("cut",), "torn"), (media, ("cut",), "dirty"),
            (media, ("flush", 0 if 0 not in media.dirty else 99), "clean"),
        ]
        wrong += [(media, ("write", value), "commit") for value in ODD_VALUES]
        wrong += [(media, ("flush", value), "clean") for value in ODD_VALUES
                  if type(value) is not int or value not in media.dirty]
        for one, step, reason in wrong:
            kept = shown(one)
            with self.assertRaises(WrongStep) as caught:
                next(falls(one, step))
            self.assertTrue(same(caught.exception.reason, reason))
            self.assertEqual(shown(one), kept)

    def test_by_turns_and_by_name(self):
        entries = entries_of(SMALL, 6, 2, range(9))
        media = Media.blank().wrote(entries[0])
        first, second = falls(media=media, step=("write", entries[1])), falls(media, ("flush", 1))
        found = [next(first), next(second), next(first), next(second), next(second), next(first)]
        self.assertEqual(found[0::2][:2] + found[5:], right_falls(media, ("write", entries[1])))
        self.assertEqual([found[1], found[3], found[4]], right_falls(media, ("flush", 1)))
        self.assertEqual((list(first), list(second)), ([], []))

    def test_the_steps_of_a_checkpoint(self):
        entries = entries_of(SMALL, 7, 8, range(20))
        media = Media.blank().after(*[("write", entry) for entry in entries])
        for step in media.checkpoint():
            media = self.check(media, step)[-1]
        self.assertEqual((media.log, media.base, media.dirty), ((), 8, ()))
        self.assertEqual(Media.of(empty_file()), Media.blank())


if __name__ == "__main__":
    unittest.main()
