import random
import unittest

from splitscar.commits import applied, entry_of
from splitscar.errors import NotRecoverable
from splitscar.falls import falls
from splitscar.images import empty_file
from splitscar.media import Media
from splitscar.recovery import mended, recovered, recovery_right
from splitscar.rules import Rule

from tests.file_models import model_table, random_deed
from tests.helpers import ODD_VALUES, RULES, same
from tests.test_media import TORN, Model, entries_of, shown, torn_log
from tests.variants import variants

SMALL = Rule(2, 1, 2, 2)


def model_of(media):
    model = Model(empty_file())
    model.pages, model.base, model.log = media.pages, media.base, list(media.log)
    return model


def model_recovered(media):
    """The recovered file by the words of [20], or the page without one."""
    model = model_of(media)
    space = model.last_image(1)
    if space in (None, TORN):
        return None, 1
    images = []
    for page in range(space[1]):
        images.append(model.last_image(page))
        if images[-1] in (None, TORN):
            return None, page
    return tuple(images), None


def histories(count, many, rules=RULES):
    """Files behind each commit, with the entries between them."""
    for number, rule in enumerate(rules):
        for seed in range(count):
            entries = entries_of(rule, 50 * seed + number, many, range(25))
            files = [empty_file()]
            for entry in entries:
                files.append(applied(files[-1], entry))
            yield rule, files, entries


class Recovered(unittest.TestCase):
    def right(self, media, file):
        kept = shown(media)
        self.assertTrue(same(recovered(media), file))
        self.assertIs(recovery_right(media, file), True)
        self.assertTrue(same(model_recovered(media)[0], file))
        self.assertEqual(shown(media), kept)

    def test_falls_during_each_step(self):
        """Behind each fall the file is that of the last commit, or of the one that was being written."""
        rng = random.Random(1)
        for rule, files, entries in histories(1, 14):
            media = Media.blank()
            for number, entry in enumerate(entries):
                self.fallen(media, ("write", entry), [files[number], files[number], files[number + 1]])
                media = media.wrote(entry)
                for page in rng.sample(media.dirty, rng.randrange(len(media.dirty) + 1)):
                    self.fallen(media, ("flush", page), [files[number + 1]] * 3)
                    media = media.flushed(page)
                if rng.random() < 0.2:
                    for step in media.checkpoint():
                        self.fallen(media, step, [files[number + 1]] * 3)
                        media = media.after(step)

    def fallen(self, media, step, files):
        left = list(falls(media, step))
        # A cut leaves two media, each other step three.
        for one, file in zip(left, files):
            self.right(one, file)
            self.right(mended(one), file)
            self.assertEqual(mended(one).log, one.entries)

    def test_falls_behind_falls(self):
        """The store goes on with mended media, torn pages among them, and falls again."""
        for number, rule in enumerate(RULES):
            rng = random.Random(number)
            media, file = Media.blank(), empty_file()
            for _ in range(30):
                luck = rng.random()
                entry = entry_of(rule, file, random_deed(rng, model_table(file), range(20)))
                step = ("write", entry) if luck < 0.5 or not media.dirty else ("flush", rng.choice(media.dirty))
                if luck > 0.9:
                    step = media.checkpoint()[0]
                left = list(falls(media, step))
                at = rng.randrange(len(left))
                if step[0] == "write" and at == 2:
                    file = applied(file, entry)
                self.right(left[at], file)
                media = mended(left[at])

    def test_some_pages_flushed(self):
        rng = random.Random(2)
        for rule, files, entries in histories(2, 12):
            media = Media.blank()
            for number, entry in enumerate(entries):
                media = media.wrote(entry)
                pages = list(media.dirty)
                rng.shuffle(pages)
                for page in pages[:rng.randrange(len(pages) + 1)]:
                    media = media.flushed(page)
                self.right(media, files[number + 1])
                self.right(torn_log(media), files[number + 1])
                if rng.random() < 0.15:
                    media = media.after(*media.checkpoint())
                    self.right(media, files[number + 1])
                    self.assertEqual(list(media.pages), list(range(len(files[number + 1]))))

    def test_the_empty_file(self):
        self.right(Media.blank(), empty_file())
        self.right(torn_log(Media.blank()), empty_file())
        self.assertEqual(recovered(media=Media.blank()), empty_file())
        self.assertIs(type(recovered(Media.blank())), tuple)

    def test_fewer_pages_than_the_media_have(self):
        # Only the last image of page 1 tells how many pages the file has.
        entry = (1, ("rebuild",), (), ((1, ("space", 2, (), 1)),))
        media = Media.blank().wrote(entry)
        self.right(media, (("head", 2, 0), ("space", 2, (), 1)))


class NotRecovered(unittest.TestCase):
    def lost(self, media, page):
        kept = shown(media)
        with self.assertRaises(NotRecoverable) as caught:
            recovered(media)
        self.assertTrue(same(caught.exception.page, page))
        self.assertEqual(model_recovered(media), (None, page))
        for value in [None, False, (), empty_file(), caught.exception]:
            self.assertIs(recovery_right(media, value), False)
        self.assertEqual(shown(media), kept)

    def test_torn_pages(self):
        for rule, files, entries in histories(1, 10, RULES[::3]):
            clean = Media.of(files[-1])
            many = len(files[-1])
            for page in range(many):
                self.lost(clean.damaged(page), page)
                self.lost(torn_log(clean.damaged(page)), page)
                for other in range(page, many, 3):
                    least = 1 if 1 in (page, other) else page
                    self.lost(clean.damaged(other, page), least)
                    self.assertIs(recovery_right(clean.damaged(page, other), files[-1]), False)

    def test_a_torn_page_with_an_entry_is_not_lost(self):
        for rule, files, entries in histories(1, 6, RULES[::3]):
            media = Media.of(files[5]).wrote(entries[5])
            for page in media.pages:
                if page in dict(entries[5][3]):
                    self.assertEqual(recovered(media.damaged(page)), files[6])
                else:
                    self.lost(media.damaged(page), page)

    def test_missing_pages(self):
        for many, least in [(4, 3), (5, 3), (10 ** 14, 3)]:
            media = Media.blank().wrote((1, ("rebuild",), (), ((1, ("space", many, (), 1)),)))
            self.lost(media, least)
            self.lost(media.flushed(1), least)
            self.lost(media.damaged(2), 2)
            self.lost(media.damaged(0), 0)
            self.lost(media.flushed(1).damaged(2, 0), 0)
        self.lost(Media({0: ("head", 2, 0), 2: ("leaf", (), None)}, 0, (), {}), 1)

    def test_page_1_comes_first(self):
        media = Media.of(applied(empty_file(), *entries_of(SMALL, 1, 9, range(40))))
        every = list(media.pages)
        self.lost(media.damaged(*every), 1)
        self.lost(media.damaged(*every[:1], 1), 1)
        self.lost(media.damaged(*every[2:], 1), 1)


class Mended(unittest.TestCase):
    def test_mended(self):
        for rule, files, entries in histories(1, 6, RULES[::4]):
            media = Media.of(files[2]).after(*[("write", entry) for entry in entries[2:]])
            self.assertEqual(mended(media), media)
            self.assertEqual(shown(mended(torn_log(media))), shown(media))
            self.assertEqual(mended(media=torn_log(media)), media)
            torn = torn_log(media.damaged(media.dirty[0]))
            self.assertEqual(mended(torn), media.damaged(media.dirty[0]))
            self.assertEqual(torn.log[-1], TORN)
            # Mended media can go on.
            entry = entry_of(rule, files[6], ("rebuild",))
            self.assertEqual(recovered(mended(torn).wrote(entry)), applied(files[6], entry))
            self.assertEqual(mended(torn).after(*mended(torn).checkpoint()), Media.of(files[6]))
        self.assertEqual(mended(torn_log(Media.blank())), Media.blank())


class Right(unittest.TestCase):
    def test_one_thing_otherwise(self):
        file = applied(empty_file(), *[
            entry for entry in entries_of(Rule(2, 1, 2, 2), 3, 7, range(9))
        ])
        media = Media.of(file)
        met = 0
        for value in variants(file):
            met += 1
            self.assertIs(recovery_right(media, value), same(value, file))
        self.assertGreater(met, 500)

    def test_other_kinds(self):
        # 1 is True for Python, but not for the document.
        media = Media.blank().wrote((1, ("put", 1, ""), (), ((1, ("space", 3, (), 1)), (2, ("leaf", ((1, ""),), None)))))
        right = (("head", 2, 0), ("space", 3, (), 1), ("leaf", ((1, ""),), None))
        self.assertIs(recovery_right(media, right), True)
        for at, image in [
            (0, ("head", 2, False)), (1, ("space", 3, (), True)), (1, ("space", 3, [], 1)), (2, ("leaf", ((True, ""),), None)),
            (2, ("leaf", ([1, ""],), None)), (2, ["leaf", ((1, ""),), None]), (2, ("leaf", ((1, ""),), False)),
        ]:
            self.assertIs(recovery_right(media, right[:at] + (image,) + right[at + 1:]), False)
        for value in ODD_VALUES + [list(right), right + (("free",),), right[:2], empty_file(), Media.blank()]:
            self.assertIs(recovery_right(media=media, value=value), False)

    def test_images_not_trees(self):
        # Two files with the same tree and table, whose pages have other numbers.
        entries = entries_of(SMALL, 4, 5, range(30))
        file = applied(empty_file(), *entries)
        again = applied(file, entry_of(SMALL, file, ("rebuild",)))
        twice = applied(again, entry_of(SMALL, again, ("rebuild",)))
        self.assertIs(recovery_right(Media.of(again), again), True)
        self.assertIs(recovery_right(Media.of(again), twice), False)


if __name__ == "__main__":
    unittest.main()
