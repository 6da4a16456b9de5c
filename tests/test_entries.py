import random
import unittest

from splitscar.commits import applied, entry_of
from splitscar.entries import changes_between, is_entry, is_row
from splitscar.images import empty_file
from splitscar.rules import Rule

from tests.file_models import model_changes, model_table, random_deed
from tests.helpers import BIG, ODD_VALUES, RULES, same
from tests.variants import plain_entry, plain_row, variants

SMALL = Rule(2, 1, 2, 2)

ROWS = [
    (1, ("put", 1, "a"), ()), (10 ** 59, ("put", 1, "x" * 40), ()), (5, ("strike", 3), (3,)),
    (5, ("strike range", 3, 9), ()), (5, ("strike range", 3, 9), (3, 4, 9)), (5, ("strike range", 9, 3), ()),
    (7, ("rebuild",), ()), (2, ("strike range", 1 - BIG, BIG - 1), (1 - BIG, 0, BIG - 1)),
]

NO_ROWS = ODD_VALUES + [
    (0, ("put", 1, "a"), ()), (-1, ("put", 1, "a"), ()), (True, ("put", 1, "a"), ()), (None, ("put", 1, "a"), ()),
    (1, ("put", 1, "a"), (1,)), (1, ("rebuild",), (1,)), (1, ("strike", 3), ()), (1, ("strike", 3), (4,)),
    (1, ("strike", 3), (3, 4)), (1, ("strike", 3), [3]), (1, ("strike", 1), (True,)), (1, ("strike", 0), (False,)),
    (1, ("strike range", 3, 9), (2,)), (1, ("strike range", 3, 9), (10,)), (1, ("strike range", 3, 9), (4, 4)),
    (1, ("strike range", 3, 9), (5, 4)), (1, ("strike range", 3, 9), [4]), (1, ("strike range", 9, 3), (5,)),
    (1, ("strike range", 0, 2), (True,)), (1, ("strike range", 0, 2), ("1",)), (1, ("strike", BIG), (BIG,)),
    (1, ["rebuild"], ()), (1, ("rebuild",)), (1, ("rebuild",), (), ()), [1, ("rebuild",), ()], (1, ("rebuild",), None),
]


def entries_of(rule, seed, many, keys):
    rng = random.Random(seed)
    file, found = empty_file(), []
    for _ in range(many):
        found.append(entry_of(rule, file, random_deed(rng, model_table(file), keys, rebuilds=0.05)))
        file = applied(file, found[-1])
    return found


class Changes(unittest.TestCase):
    def test_between_files(self):
        for rule in RULES[::3]:
            entries = entries_of(rule, 1, 60, range(40))
            files = [empty_file()]
            for entry in entries:
                files.append(applied(files[-1], entry))
                self.assertTrue(same(changes_between(files[-2], files[-1]), entry[3]))
            for start in range(0, 61, 6):
                self.assertTrue(same(changes_between(files[start], files[start]), ()))
                for end in range(start + 1, 61, 5):
                    changes = changes_between(files[start], files[end])
                    self.assertTrue(same(changes, model_changes(files[start], files[end])))
                    self.assertEqual(applied(files[start], (end, None, (), changes)), files[end])

    def test_few_pages(self):
        file = empty_file()
        later = applied(file, entry_of(SMALL, file, ("put", 1, "123456789")))
        self.assertTrue(same(changes_between(file, later), (
            (1, ("space", 5, (), 1)), (2, ("leaf", ((1, ("at", 3, 9)),), None)), (3, ("piece", "12345678", 4)),
            (4, ("piece", "9", None)),
        )))
        self.assertEqual(changes_between(later=later, file=later), ())


class Rows(unittest.TestCase):
    def test_rows(self):
        for row in ROWS:
            self.assertIs(is_row(row), True, row)
        self.assertIs(is_row(value=ROWS[0]), True)

    def test_no_rows(self):
        for value in NO_ROWS:
            self.assertIs(is_row(value), False, value)

    def test_one_thing_changed(self):
        for row in ROWS:
            for value in variants(row):
                self.assertIs(is_row(value), plain_row(value), value)

    def test_rows_of_entries(self):
        for rule in RULES[::5]:
            for entry in entries_of(rule, 3, 60, range(30)):
                self.assertIs(is_row(entry[:3]), True)
                self.assertIs(is_row(entry), False)


class Entries(unittest.TestCase):
    def test_entries_of_all_deeds(self):
        met = set()
        for rule in RULES:
            for entry in entries_of(rule, 2, 60, range(30)):
                self.assertIs(is_entry(entry), True)
                self.assertIs(is_entry(entry[:3]), False)
                met.add(entry[1][0])
        self.assertEqual(met, {"put", "strike", "strike range", "rebuild"})

    def test_one_thing_changed(self):
        entries = entries_of(SMALL, 4, 40, range(12))
        for entry in entries[::5] + [entry for entry in entries if entry[1] == ("rebuild",)][:1]:
            for value in variants(entry):
                self.assertIs(is_entry(value), plain_entry(value), value)

    def test_page_1(self):
        space = ("space", 3, (), 4)
        deed = ("put", 1, "")
        leaf = ("leaf", ((1, ""),), None)
        self.assertIs(is_entry((4, deed, (), ((1, space),))), True)
        self.assertIs(is_entry((4, deed, (), ((0, ("free",)), (1, space), (899, leaf)))), True)
        for changes in [
            (), ((1, leaf),), ((2, space),), ((1, ("space", 3, (), 5)),), ((1, ("space", 3, (), 3)),), ((2, leaf),),
            ((1, space), (1, space)), ((2, leaf), (1, space)), ((1, space), (900, leaf)), ((-1, leaf), (1, space)),
            ((1, space), (2, ("torn",))), ((1, space), [2, leaf]), [(1, space)], ((True, space),), ((1, list(space)),),
            ((1, space), (2,)), ((1, space), (2, leaf, leaf)), (1, space), {1: space}, None,
        ]:
            self.assertIs(is_entry((4, deed, (), changes)), False, changes)
        self.assertIs(is_entry((1, deed, (), ((1, ("space", 3, (), True)),))), False)

    def test_any_other_value(self):
        for value in ODD_VALUES + NO_ROWS + ROWS + [row + (((1, ("space", 3, (), 4)),),) for row in ROWS]:
            self.assertIs(is_entry(value), False)
        self.assertIs(is_entry(value=(4, ("rebuild",), (), ((1, ("space", 3, (), 4)),))), True)


if __name__ == "__main__":
    unittest.main()
