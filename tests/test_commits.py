import random
import unittest

from splitscar.commits import applied, entry_of
from splitscar.entries import is_entry
from splitscar.errors import Full, InvalidDeed, NoKey
from splitscar.images import empty_file, is_image
from splitscar.packing import packed_levels
from splitscar.rules import Rule

from tests.file_models import (
    ModelFile, after, is_sound_file, model_changes, model_levels_of, model_table, random_deed, random_value,
)
from tests.helpers import BIG, ODD_VALUES, RULES, same

SMALL = Rule(2, 1, 2, 2)
WIDE = Rule(1, 1, 2, 2)
LONG = "0123456789abcdefghijklmnopqrstuvwxyzABCD"


def filled(rule, keys, value=""):
    return after(rule, empty_file(), *[("put", key, value) for key in keys])


def tree_size(file):
    return sum(1 for image in file if image[0] in ("leaf", "inner"))


def padded(rule, file, size):
    """A file of short values with longer ones, so that it has just so many pages and none is free."""
    missing = size - len(file) + len(file[1][2])
    for key, _ in model_table(file):
        if missing > 0:
            # A long value has 2 to 5 pieces, so never may one be left over.
            pieces = 4 if missing == 6 else min(missing, 5)
            file = after(rule, file, ("put", key, "p" * (8 * pieces)))
            missing -= pieces
    assert len(file) == size and not file[1][2]
    return file


def full_tree():
    """A file whose tree has 400 pages."""
    for seed in range(40):
        file = empty_file()
        for key in random.Random(seed).sample(range(1000), 300):
            if tree_size(file) == 400:
                return file
            try:
                file = after(WIDE, file, ("put", key, ""))
            except Full:
                break
    return None


class PageByPage(unittest.TestCase):
    def test_histories(self):
        for rule in RULES:
            for seed in range(6):
                rng = random.Random(seed)
                keys = range(-10 * seed, 6 + 12 * seed)
                model, file = ModelFile(rule), empty_file()
                self.assertTrue(same(model.file(), file))
                for number in range(1, 60):
                    deed = random_deed(rng, model.table(), keys)
                    stored = tuple(key for key, _ in model.table())
                    struck = model.do(deed, packed_levels(rule, stored))
                    entry = entry_of(rule, file, deed)
                    self.assertTrue(same(entry, (number, deed, struck, model_changes(file, model.file()))))
                    self.assertTrue(is_entry(entry))
                    file = applied(file, entry)
                    self.assertTrue(same(file, model.file()))
                    self.assertEqual(model_table(file), model.table())
                self.assertTrue(is_sound_file(rule, file))
                self.assertTrue(all(is_image(image) for image in file))

    def test_the_file_stays(self):
        file = filled(SMALL, range(9), LONG)
        other = filled(SMALL, range(9), LONG)
        for deed in [("put", 3, ""), ("put", 20, LONG), ("strike", 4), ("strike range", 2, 7), ("rebuild",)]:
            first = entry_of(SMALL, file, deed)
            self.assertEqual(entry_of(SMALL, file, deed), first)
            self.assertTrue(same(file, other))

    def test_by_name(self):
        entry = entry_of(rule=SMALL, file=empty_file(), deed=("put", 1, "a"))
        self.assertEqual(entry, entry_of(SMALL, empty_file(), ("put", 1, "a")))


class Puts(unittest.TestCase):
    def test_first_put(self):
        entry = entry_of(SMALL, empty_file(), ("put", 5, "five"))
        changes = ((1, ("space", 3, (), 1)), (2, ("leaf", ((5, "five"),), None)))
        self.assertTrue(same(entry, (1, ("put", 5, "five"), (), changes)))

    def test_equal_short_value_changes_page_1_alone(self):
        file = filled(SMALL, [5], "12345678")
        entry = entry_of(SMALL, file, ("put", 5, "12345678"))
        self.assertEqual(entry, (2, ("put", 5, "12345678"), (), ((1, ("space", 3, (), 2)),)))

    def test_equal_long_value_takes_its_pages_again(self):
        file = filled(SMALL, [5], LONG)
        entry = entry_of(SMALL, file, ("put", 5, LONG))
        self.assertEqual(entry[3], ((1, ("space", 8, (), 2)),))

    def test_lengths_of_values(self):
        for length, pieces in [(0, 0), (8, 0), (9, 2), (16, 2), (17, 3), (24, 3), (25, 4), (32, 4), (33, 5), (40, 5)]:
            file = after(SMALL, empty_file(), ("put", 5, LONG[:length]))
            self.assertEqual(len(file), 3 + pieces)
            held = ("at", 3, length) if pieces else LONG[:length]
            self.assertEqual(file[2], ("leaf", ((5, held),), None))
            for at in range(pieces):
                following = 4 + at if at + 1 < pieces else None
                self.assertEqual(file[3 + at], ("piece", LONG[8 * at:min(length, 8 * at + 8)], following))

    def test_pages_of_the_replaced_value_are_taken_first(self):
        file = after(SMALL, empty_file(), ("put", 5, LONG[:24]), ("put", 6, LONG[:9]), ("strike", 6))
        self.assertEqual(file[1], ("space", 8, (6, 7), 3))
        later = after(SMALL, file, ("put", 5, LONG))
        self.assertEqual(later[1], ("space", 8, (), 4))
        self.assertEqual(later[2], ("leaf", ((5, ("at", 3, 40)),), None))
        shorter = after(SMALL, file, ("put", 5, "x" * 12))
        self.assertEqual(shorter[1], ("space", 8, (5, 6, 7), 4))
        self.assertEqual(shorter[3:6], (("piece", "x" * 8, 4), ("piece", "xxxx", None), ("free",)))

    def test_pieces_before_pages_of_splits(self):
        file = filled(SMALL, [1, 2])
        later = after(SMALL, file, ("put", 3, LONG[:9]))
        self.assertEqual(later[0], ("head", 6, 0))
        self.assertEqual(later[1], ("space", 7, (), 3))
        self.assertEqual(later[2:5], (("leaf", ((1, ""), (2, "")), 5), ("piece", LONG[:8], 4), ("piece", "8", None)))
        self.assertEqual(later[5:], (("leaf", ((3, ("at", 3, 9)),), None), ("inner", (3,), (2, 5))))

    def test_splits_up_to_a_new_root(self):
        file = filled(SMALL, range(1, 7))
        self.assertEqual(model_levels_of(file), (((3, 5),), ((1, 2), (3, 4), (5, 6))))
        entry = entry_of(SMALL, file, ("put", 7, ""))
        self.assertEqual([page for page, _ in entry[3]], [0, 1, 4, 5, 6, 7, 8])
        later = applied(file, entry)
        self.assertEqual(later[0], ("head", 8, 0))
        self.assertEqual(later[4], ("inner", (3,), (2, 3)))
        self.assertEqual(later[5:], (
            ("leaf", ((5, ""), (6, "")), 6), ("leaf", ((7, ""),), None), ("inner", (7,), (5, 6)),
            ("inner", (5,), (4, 7)),
        ))

    def test_free_pages_are_taken_least_first(self):
        file = after(SMALL, empty_file(), ("put", 1, LONG), ("put", 2, LONG[:9]), ("strike", 1))
        self.assertEqual(file[1], ("space", 10, (3, 4, 5, 6, 7), 3))
        file = after(SMALL, file, ("put", 3, ""), ("put", 4, LONG[:17]))
        self.assertEqual(file[1], ("space", 10, (), 5))
        self.assertEqual(file[0], ("head", 7, 0))
        self.assertEqual(file[2][2], 6)
        self.assertEqual(file[6], ("leaf", ((4, ("at", 3, 17)),), None))


class Strikes(unittest.TestCase):
    def test_strike(self):
        file = after(SMALL, empty_file(), ("put", 1, LONG[:9]), ("put", 2, "b"))
        entry = entry_of(SMALL, file, ("strike", 1))
        self.assertTrue(same(entry, (3, ("strike", 1), (1,), (
            (1, ("space", 5, (3, 4), 3)), (2, ("leaf", ((2, "b"),), None)), (3, ("free",)), (4, ("free",)),
        ))))

    def test_ranges(self):
        file = filled(SMALL, range(0, 40, 2), "0123456789")
        for low, high in [(0, 38), (7, 7), (8, 8), (5, 17), (-BIG + 1, BIG - 1), (39, 50), (9, 3), (38, 0), (-5, 0)]:
            entry = entry_of(SMALL, file, ("strike range", low, high))
            struck = tuple(key for key in range(0, 40, 2) if low <= key <= high)
            self.assertTrue(same(entry[:3], (21, ("strike range", low, high), struck)))
            later = applied(file, entry)
            self.assertEqual(tuple(key for key, _ in model_table(later)),
                             tuple(key for key in range(0, 40, 2) if key not in struck))
            self.assertTrue(is_sound_file(SMALL, later))
            if not struck:
                self.assertEqual(entry[3], ((1, ("space", len(file), (), 21)),))

    def test_a_leaf_may_become_empty(self):
        file = after(SMALL, filled(SMALL, range(5)), ("strike range", 0, 4))
        self.assertEqual(model_levels_of(file), (((2, 4),), ((), (), ())))


class Rebuilds(unittest.TestCase):
    def test_rebuild(self):
        file = after(SMALL, filled(SMALL, range(1, 6), LONG[:9]), ("strike", 3))
        self.assertEqual(len(file), 16)
        entry = entry_of(SMALL, file, ("rebuild",))
        self.assertEqual(entry[:3], (7, ("rebuild",), ()))
        later = applied(file, entry)
        levels = packed_levels(SMALL, (1, 2, 4, 5))
        self.assertEqual(model_levels_of(later), levels)
        self.assertEqual(model_table(later), model_table(file))
        old = {page for page in range(len(file)) if file[page][0] in ("leaf", "inner")}
        self.assertTrue(all(later[page] == ("free",) for page in old))
        # The pieces of the struck value were free, so the new leaves take their pages first.
        taken = [page for page in range(2, len(later)) if later[page][0] in ("leaf", "inner")]
        self.assertEqual(taken[:2], [page for page in range(len(file)) if file[page] == ("free",)])
        self.assertEqual(later[0][2], 7)
        self.assertTrue(is_sound_file(SMALL, later))

    def test_of_the_empty_file(self):
        entry = entry_of(SMALL, empty_file(), ("rebuild",))
        self.assertEqual(entry, (1, ("rebuild",), (), (
            (0, ("head", 3, 1)), (1, ("space", 4, (2,), 1)), (2, ("free",)), (3, ("leaf", (), None)),
        )))

    def test_born(self):
        file = after(SMALL, empty_file(), ("put", 1, ""), ("rebuild",), ("put", 2, ""), ("strike", 1))
        self.assertEqual(file[0][2], 2)
        self.assertEqual(after(SMALL, file, ("rebuild",))[0][2], 5)


class Refused(unittest.TestCase):
    def refused(self, error, attributes, rule, file, deed):
        kept = tuple(file)
        with self.assertRaises(error) as caught:
            entry_of(rule, file, deed)
        for name, value in attributes.items():
            self.assertTrue(same(getattr(caught.exception, name), value))
        self.assertEqual(file, kept)

    def test_invalid_deeds(self):
        file = filled(SMALL, range(3))
        wrong = ODD_VALUES + [
            ("put", 1), ("put", 1, "", ""), ("put", BIG, ""), ("put", True, ""), ("put", 1, "x" * 41), ("put", 1, "\n"),
            ["put", 1, ""], ("strike", None), ("strike", "1"), ("strike", 1, 2), ("strike range", 1), ("rebuild", 1),
            ("strike range", 1, -BIG), ("get", 1), ("scan", 1, 2), (), ("",), (None,), ("Put", 1, ""),
        ]
        for deed in wrong:
            self.refused(InvalidDeed, {"deed": deed}, SMALL, file, deed)

    def test_no_key(self):
        file = after(SMALL, filled(SMALL, range(5)), ("strike", 3))
        for key in [3, -1, 5, BIG - 1, 1 - BIG]:
            self.refused(NoKey, {"key": key}, SMALL, file, ("strike", key))
        self.refused(InvalidDeed, {"deed": ("strike", BIG)}, SMALL, file, ("strike", BIG))

    def test_300_records(self):
        rule = Rule(8, 8, 8, 8)
        file = filled(rule, range(299))
        full = after(rule, file, ("put", 299, ""))
        self.refused(Full, {"limit": 300}, rule, full, ("put", 300, ""))
        self.refused(Full, {"limit": 300}, rule, full, ("put", -1, LONG))
        for deed in [("put", 0, LONG), ("strike", 5), ("rebuild",), ("strike range", 0, 9)]:
            self.assertTrue(is_sound_file(rule, after(rule, full, deed)))
        later = after(rule, full, ("strike", 7), ("put", 300, ""))
        self.assertEqual(len(model_table(later)), 300)

    def test_400_pages_of_the_tree(self):
        # The tree grows by one page for a leaf, and by more where other pages are split, too.
        steps = {}
        for seed in range(40):
            rng = random.Random(seed)
            file, many = empty_file(), 1
            for key in rng.sample(range(1000), 300):
                try:
                    later = after(WIDE, file, ("put", key, ""))
                except Full as error:
                    self.assertEqual(error.limit, 400)
                    steps[many, "refused"] = (file, key)
                    break
                file = later
                grown = tree_size(file)
                steps[many, grown] = True
                many = grown
        # Exactly 400 pages are allowed, from 399 and from fewer; 401 are not.
        self.assertIn((399, 400), steps)
        self.assertIn((398, 400), steps)
        self.assertIn((400, "refused"), steps)
        self.assertIn((399, "refused"), steps)
        self.assertNotIn((390, "refused"), steps)
        file, key = steps[400, "refused"]
        self.refused(Full, {"limit": 400}, WIDE, file, ("put", key, ""))
        self.refused(Full, {"limit": 400}, WIDE, file, ("put", key, LONG))
        # A put that splits no page is not refused, nor is a rebuild: the packed tree is no larger.
        stored = model_table(file)[0][0]
        self.assertEqual(len(after(WIDE, file, ("put", stored, "other"))), len(file))
        struck = after(WIDE, file, ("strike", stored))
        self.assertEqual(len(after(WIDE, struck, ("put", stored, ""))), len(file))
        self.assertTrue(is_sound_file(WIDE, after(WIDE, file, ("rebuild",))))

    def test_900_pages(self):
        rule = Rule(8, 8, 8, 8)
        file = padded(rule, filled(rule, range(200)), 900)
        self.refused(Full, {"limit": 900}, rule, file, ("put", 5000, "z" * 9))
        self.refused(Full, {"limit": 900}, rule, file, ("put", 199, "z" * 9))
        self.refused(Full, {"limit": 900}, rule, file, ("rebuild",))
        self.assertEqual(len(after(rule, file, ("put", 0, "z" * 40))), 900)
        self.assertEqual(len(after(rule, file, ("put", 0, ""))), 900)
        freed = after(rule, file, ("strike range", 0, 20))
        self.assertEqual(len(after(rule, freed, ("rebuild",))), 900)
        self.assertEqual(len(after(rule, freed, ("put", 5000, "z" * 9))), 900)

    def test_the_very_bound_of_900_pages(self):
        rule = Rule(8, 8, 8, 8)
        first = filled(rule, range(200))
        for size in range(894, 901):
            file = padded(rule, first, size)
            for length in [9, 17, 25, 33]:
                pieces = length // 8 + 1
                deed = ("put", 199, "q" * length)
                if size + pieces <= 900:
                    self.assertEqual(len(after(rule, file, deed)), size + pieces)
                else:
                    self.refused(Full, {"limit": 900}, rule, file, deed)
            self.assertEqual(len(after(rule, file, ("put", 199, "q" * 8))), size)

    def test_the_very_bound_of_a_rebuild(self):
        rule = Rule(8, 8, 8, 8)
        first = filled(rule, range(200))
        packed = sum(len(pages) for pages in packed_levels(rule, tuple(range(200))))
        for size in [900 - packed - 1, 900 - packed]:
            self.assertEqual(len(after(rule, padded(rule, first, size), ("rebuild",))), size + packed)
        file = padded(rule, first, 900 - packed + 1)
        self.refused(Full, {"limit": 900}, rule, file, ("rebuild",))
        # A page that is free already need not be new.
        freed = after(rule, file, ("put", 0, ""))
        self.assertEqual(len(after(rule, freed, ("rebuild",))), len(file) + packed - len(freed[1][2]))

    def test_files_that_are_larger_already(self):
        model = ModelFile(WIDE)
        for key in range(300):
            model.do(("put", key, LONG[:9 + key % 9]))
        file = model.file()
        self.assertGreater(tree_size(file), 400)
        self.assertGreater(len(file), 900)
        for deed in [("put", 7, ""), ("put", 7, LONG[:9]), ("strike", 9), ("strike range", 10, 300)]:
            self.assertEqual(len(after(WIDE, file, deed)), len(file))
        self.refused(Full, {"limit": 900}, WIDE, file, ("put", 7, LONG))
        self.refused(Full, {"limit": 300}, WIDE, file, ("put", 300, LONG))
        self.refused(Full, {"limit": 400}, WIDE, file, ("rebuild",))
        self.refused(Full, {"limit": 400}, WIDE, after(WIDE, file, ("strike", 0)), ("put", 300, LONG))

    def test_the_first_of_several(self):
        file = full_tree()
        struck = model_table(file)[0][0]
        file = padded(WIDE, after(WIDE, file, ("strike", struck)), 900)
        self.refused(Full, {"limit": 400}, WIDE, file, ("put", 2000, LONG))
        self.refused(Full, {"limit": 900}, WIDE, file, ("put", struck, LONG))
        rule = Rule(8, 8, 8, 8)
        file = padded(rule, filled(rule, range(300)), 900)
        self.refused(Full, {"limit": 300}, rule, file, ("put", 300, LONG))
        self.refused(Full, {"limit": 900}, rule, file, ("put", 299, LONG))


class Applied(unittest.TestCase):
    def test_none_one_and_many(self):
        rng = random.Random(5)
        file, entries, files = empty_file(), [], [empty_file()]
        for _ in range(80):
            deed = random_deed(rng, model_table(file), range(30))
            entries.append(entry_of(SMALL, file, deed))
            file = applied(file, entries[-1])
            files.append(file)
        self.assertTrue(same(applied(file), file))
        for start in range(0, 80, 7):
            for end in range(start, 81, 5):
                self.assertTrue(same(applied(files[start], *entries[start:end]), files[end]))

    def test_long_histories(self):
        for rule in RULES[::4]:
            rng = random.Random(7)
            model, file = ModelFile(rule), empty_file()
            for _ in range(150):
                deed = ("put", rng.randrange(400), random_value(rng))
                stored = tuple(key for key, _ in model.table())
                if len(file) > 850:
                    deed = ("strike range", stored[0], stored[len(stored) // 2])
                model.do(deed)
                file = applied(file, entry_of(rule, file, deed))
            self.assertTrue(same(file, model.file()))


if __name__ == "__main__":
    unittest.main()
