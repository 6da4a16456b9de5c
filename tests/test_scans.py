import random
import unittest

from splitscar.errors import InvalidKey, NoKey
from splitscar.images import empty_file
from splitscar.rules import Rule
from splitscar.scans import keys_between, records_in, table_of, value_of

from tests.file_models import ModelFile, after, model_table, random_deed
from tests.helpers import BIG, NO_KEYS, RULES, same

SMALL = Rule(2, 1, 2, 2)
LONG = "0123456789abcdefghijklmnopqrstuvwxyzABCD"


def samples():
    """Tables beside files that have them, with empty leaves and long values."""
    for number, rule in enumerate(RULES):
        for seed in range(3):
            rng = random.Random(100 * seed + number)
            model, file = ModelFile(rule), empty_file()
            for _ in range((3, 30, 90)[seed]):
                deed = random_deed(rng, model.table(), range(-30, 60), rebuilds=0)
                model.do(deed)
                file = after(rule, file, deed)
            yield model.table(), file


class Scans(unittest.TestCase):
    def test_tables(self):
        for table, file in samples():
            self.assertTrue(same(table_of(file), table))
            self.assertTrue(same(tuple(records_in(file)), table))
            self.assertTrue(same(table_of(file), model_table(file)))

    def test_bounds(self):
        bounds = [None, 1 - BIG, -31, -30, -7, 0, 1, 13, 30, 59, 60, BIG - 1]
        for table, file in samples():
            for low in bounds:
                for high in bounds:
                    right = tuple(record for record in table
                                  if (low is None or low <= record[0]) and (high is None or record[0] <= high))
                    self.assertTrue(same(tuple(records_in(file, low=low, high=high)), right))
                    if low is not None and high is not None:
                        self.assertTrue(same(keys_between(file, low, high), tuple(key for key, _ in right)))
                self.assertEqual(tuple(records_in(file, low=low)), tuple(records_in(file, low=low, high=None)))
                self.assertEqual(tuple(records_in(file, high=low)), tuple(records_in(file, low=None, high=low)))

    def test_values(self):
        for table, file in samples():
            present = dict(table)
            for key in range(-32, 62):
                if key in present:
                    self.assertTrue(same(value_of(file, key), present[key]))
                else:
                    with self.assertRaises(NoKey) as caught:
                        value_of(file, key)
                    self.assertEqual(caught.exception.key, key)

    def test_long_values(self):
        for length in range(41):
            file = after(SMALL, empty_file(), ("put", 4, LONG[:length]), ("put", 1, "a"))
            self.assertEqual(value_of(file, 4), LONG[:length])
            self.assertEqual(table_of(file), ((1, "a"), (4, LONG[:length])))

    def test_the_empty_table(self):
        self.assertTrue(same(table_of(empty_file()), ()))
        self.assertEqual(list(records_in(empty_file(), low=1, high=3)), [])
        self.assertTrue(same(keys_between(empty_file(), -9, 9), ()))

    def test_by_name(self):
        file = after(SMALL, empty_file(), ("put", 4, "a"), ("put", 1, "b"))
        self.assertEqual(list(records_in(file=file, high=3)), [(1, "b")])
        self.assertEqual(table_of(file=file), ((1, "b"), (4, "a")))
        self.assertEqual(value_of(key=4, file=file), "a")
        self.assertEqual(keys_between(high=4, low=2, file=file), (4,))
        with self.assertRaises(TypeError):
            records_in(file, 1, 2)


class Wrong(unittest.TestCase):
    def setUp(self):
        self.file = after(SMALL, empty_file(), *[("put", key, "v") for key in range(9)])

    def test_bounds_that_are_no_keys(self):
        for value in NO_KEYS:
            if value is None:
                continue
            for bounds in [{"low": value}, {"high": value}, {"low": value, "high": 3}, {"low": 3, "high": value},
                           {"low": value, "high": [value]}]:
                with self.assertRaises(InvalidKey) as caught:
                    next(records_in(self.file, **bounds))
                self.assertTrue(same(caught.exception.value, value))

    def test_any_value_as_a_key(self):
        for value in NO_KEYS + [-1, 9]:
            with self.assertRaises(NoKey) as caught:
                value_of(self.file, value)
            self.assertTrue(same(caught.exception.key, value))

    def test_walks_by_turns(self):
        first, second = records_in(self.file), records_in(self.file, low=4)
        found = []
        for _ in range(3):
            found.append((next(first)[0], next(second)[0]))
        self.assertEqual(found, [(0, 4), (1, 5), (2, 6)])
        self.assertEqual([key for key, _ in second], [7, 8])
        self.assertEqual([key for key, _ in first], [3, 4, 5, 6, 7, 8])


if __name__ == "__main__":
    unittest.main()
