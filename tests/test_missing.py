import random
import unittest

from splitscar.errors import InvalidRow, InvalidStart, NoHistory, NoKey, NoRoom, NotItsLog, NotSound
from splitscar.images import levels_of
from splitscar.missing import Missing
from splitscar.missingcheck import shows_missing, sure_by
from splitscar.rooms import strike_rows
from splitscar.rules import Rule
from splitscar.scans import table_of
from splitscar.shapes import shape_of
from splitscar.store import Store
from splitscar.trees import Tree

from tests.check_models import model_file_fault, model_sum
from tests.helpers import BIG, NO_KEYS, ODD_VALUES, RULES, same
from tests.missing_models import (
    history, model_gaps, model_leaf_pairs, model_missing_numbers, model_shares, need_above,
)
from tests.test_evidence import file_of
from tests.test_rooms import model_rooms
from tests.variants import plain_row, variants

SMALL = Rule(2, 1, 2, 2)
KEYS = range(-5, 60)


def some_rows(rng, rows, share):
    return tuple(row for row in rows if rng.random() < share)


def told_pairs(rule, file, rows, gaps):
    tree = Tree(rule, levels_of(file))
    return model_leaf_pairs(rule, shape_of(tree.levels), model_rooms(tree), tree.levels, rows, gaps)


class Answers(unittest.TestCase):
    def check(self, rule, file, rows, start):
        missing = Missing(rule, file, rows) if start is None else Missing(rule, file, rows, start=start)
        gaps = model_gaps(file, rows, start, KEYS)
        numbers = model_missing_numbers(file, rows)
        sizes = shape_of(levels_of(file))[0]
        pairs = told_pairs(rule, file, rows, gaps)
        puts = tuple((key, after, before) for key, word, after, before in gaps if word == "put")
        struck = tuple((key, after, before) for key, word, after, before in gaps if word == "strike")
        self.assertTrue(same(missing.numbers, tuple(numbers)))
        self.assertTrue(same(missing.puts, puts))
        self.assertTrue(same(missing.struck, struck))
        self.assertTrue(same(missing.least, need_above(rule, sizes, pairs, 0, 0)[0]))
        self.assertTrue(same(missing.shares, model_shares(rule, sizes, pairs)))
        self.assertEqual(missing.least, sum(row[-1] for row in missing.shares))
        self.assertTrue(same(len(missing), len(numbers)))
        self.assertEqual(repr(missing), f"Missing({len(numbers)} numbers, {len(puts)} puts, {len(struck)} strikes)")
        for key in KEYS:
            right = tuple((word, after, before) for other, word, after, before in gaps if other == key)
            self.assertIs(key in missing, bool(right))
            if right:
                self.assertTrue(same(missing[key], right))
            else:
                with self.assertRaises(NoKey) as caught:
                    missing[key]
                self.assertTrue(same(caught.exception.key, key))
        return missing, gaps

    def truly_missing(self, all_rows, rows):
        told = [row[0] for row in rows]
        return [row for row in all_rows if row[0] not in told]

    def test_random_logs(self):
        met = {"put": 0, "strike": 0, "ghost": 0, "least": 0}
        for number, rule in enumerate(RULES):
            for seed in range(4):
                rng, store, rows, start = history(rule, 100 * seed + number, rng_many(seed))
                for share in (1, 0, 0.3, 0.7, 0.9):
                    some = some_rows(rng, rows, share)
                    for told in (start, None):
                        missing, gaps = self.check(rule, store.file, some, told)
                        self.promised(store, rows, some, missing, gaps)
                        met["put"] += len(missing.puts)
                        met["strike"] += len(missing.struck)
                        met["least"] += missing.least > len(missing.struck)
                for _ in range(3 if rows else 0):
                    at = rng.randrange(len(rows))
                    some = rows[:at] + rows[at + 1:]
                    missing, gaps = self.check(rule, store.file, some, start)
                    self.promised(store, rows, some, missing, gaps)
                    self.assertEqual(missing.numbers, (rows[at][0],))
        self.assertGreater(min(met["put"], met["strike"], met["least"]), 20)

    def promised(self, store, all_rows, rows, missing, gaps):
        """For each gap an entry is missing, and at least so many strikes."""
        lost = self.truly_missing(all_rows, rows)
        self.assertEqual([row[0] for row in lost], list(missing.numbers))
        for key, word, after, before in gaps:
            between = [row for row in lost if after < row[0] < before]
            if word == "put":
                self.assertTrue(any(row[1][0] == "put" and row[1][1] == key for row in between))
            else:
                self.assertTrue(any(key in row[2] for row in between))
        self.assertLessEqual(missing.least, sum(len(row[2]) for row in lost))

    def test_all_rows(self):
        for number, rule in enumerate(RULES):
            rng, store, rows, start = history(rule, number, 60)
            for told in (start, None):
                missing, gaps = self.check(rule, store.file, rows, told)
                self.assertEqual((missing.numbers, missing.puts, missing.struck, missing.least, missing.shares),
                                 ((), (), (), 0, ()))

    def test_no_rows(self):
        for number, rule in enumerate(RULES):
            rng, store, rows, start = history(rule, number + 40, 40, rebuilds=0)
            missing, gaps = self.check(rule, store.file, (), None)
            self.assertEqual(missing.numbers, tuple(range(1, 41)))
            self.assertEqual([key for key, _, _ in missing.puts if key in dict(store.table)],
                             [key for key, _ in store.table])
            self.assertGreaterEqual(missing.least, len(missing.struck))
            self.assertEqual(missing.least, sum(row[-1] for row in strike_rows(Tree(rule, store.levels))))

    def test_the_empty_file(self):
        store = Store(SMALL)
        for rows, start in [((), None), ((), ())]:
            missing, _ = self.check(SMALL, store.file, rows, start)
            self.assertEqual(len(missing), 0)
        by_name = Missing(rule=SMALL, file=store.file, rows=(), start=None)
        self.assertEqual(repr(by_name), "Missing(0 numbers, 0 puts, 0 strikes)")
        with self.assertRaises(TypeError):
            Missing(SMALL, store.file, (), ())
        self.assertIs(by_name == Missing(SMALL, store.file, ()), False)

    def test_nothing_can_be_assigned(self):
        missing = Missing(SMALL, Store(SMALL).file, ())
        for name in ("numbers", "puts", "struck", "least", "shares"):
            with self.assertRaises(AttributeError):
                setattr(missing, name, None)
        with self.assertRaises(TypeError):
            list(missing)

    def test_any_value_as_a_key(self):
        rng, store, rows, start = history(SMALL, 3, 30, rebuilds=0)
        missing = Missing(SMALL, store.file, ())
        self.assertTrue(missing.puts)
        for value in NO_KEYS + [999, -999]:
            self.assertIs(value in missing, False)
            with self.assertRaises(NoKey) as caught:
                missing[value]
            self.assertTrue(same(caught.exception.key, value))
        key = missing.puts[0][0]
        self.assertIs(key in missing, True)


def rng_many(seed):
    return (6, 25, 60, 110)[seed]


class Kinds(unittest.TestCase):
    """Each kind of gap, in small histories."""

    def missing(self, store, rows, **start):
        return Missing(store.rule, store.file, rows, **start)

    def rows_of(self, store, *deeds):
        rows = []
        for deed in deeds:
            store.do(deed)
            rows.append(store.last[:3])
        return rows

    def test_put_and_strike(self):
        store = Store(SMALL)
        rows = self.rows_of(store, ("put", 1, "a"), ("put", 2, "b"), ("strike", 1), ("put", 2, "c"))
        # Without the put of 1 its strike tells of it.
        missing = self.missing(store, tuple(rows[1:]))
        self.assertTrue(same((missing.numbers, missing.puts, missing.struck), ((1,), ((1, 0, 3),), ())))
        # Without its strike the file tells of it.
        missing = self.missing(store, tuple(rows[:2] + rows[3:]))
        self.assertTrue(same((missing.puts, missing.struck), ((), ((1, 1, 5),))))
        # Another value in the file.
        missing = self.missing(store, tuple(rows[:3]))
        self.assertTrue(same((missing.puts, missing[2]), (((2, 2, 5),), (("put", 2, 5),))))
        # An equal value tells nothing.
        store.put(2, "c")
        missing = self.missing(store, tuple(rows))
        self.assertTrue(same((missing.numbers, missing.puts, missing.struck), ((5,), (), ())))

    def test_two_gaps_of_a_key(self):
        store = Store(SMALL)
        rows = self.rows_of(store, ("put", 1, "a"), ("strike", 1), ("put", 2, ""), ("put", 1, "b"), ("strike", 1),
                            ("put", 1, "c"))
        missing = self.missing(store, tuple(rows[at] for at in (0, 2, 4)))
        self.assertEqual(missing[1], (("put", 5, 7),))
        missing = self.missing(store, tuple(rows[at] for at in (1, 4)))
        self.assertEqual(missing[1], (("put", 0, 2), ("put", 2, 5), ("put", 5, 7)))
        self.assertEqual(missing.puts, ((1, 0, 2), (1, 2, 5), (1, 5, 7), (2, 0, 7)))

    def test_ranges(self):
        store = Store(SMALL)
        rows = self.rows_of(store, ("put", 1, "a"), ("put", 5, "b"), ("strike", 1), ("strike range", 0, 9),
                            ("put", 1, "c"), ("strike range", 3, 9))
        # The range did not strike 1, so it was struck before; and it was put afterwards.
        missing = self.missing(store, tuple(rows[at] for at in (0, 1, 3, 5)))
        self.assertTrue(same((missing.struck, missing.puts), (((1, 1, 4),), ((1, 4, 7),))))
        # A range beside the key tells nothing of it.
        missing = self.missing(store, (rows[0], rows[5]))
        self.assertTrue(same((missing.struck, missing[1]), ((), (("put", 1, 7),))))

    def test_starts(self):
        store = Store(SMALL)
        self.rows_of(store, ("put", 1, "a"), ("put", 2, "b"), ("put", 3, "c"), ("rebuild",))
        start = store.table
        rows = self.rows_of(store, ("strike", 2), ("put", 4, "d"), ("put", 3, "z"))
        missing = self.missing(store, tuple(rows[:0]), start=start)
        self.assertTrue(same((missing.numbers, missing.struck), ((5, 6, 7), ((2, 4, 8),))))
        self.assertTrue(same(missing.puts, ((3, 4, 8), (4, 4, 8))))
        # With an unknown start the file alone tells nothing of these keys.
        missing = self.missing(store, ())
        self.assertTrue(same((missing.struck, missing.puts), ((), ())))
        missing = self.missing(store, tuple(rows), start=start)
        self.assertEqual(len(missing), 0)

    def test_ghosts(self):
        store = Store(SMALL)
        rows = self.rows_of(store, ("put", 1, ""), ("put", 2, ""), ("put", 3, ""), ("strike", 3))
        self.assertEqual(store.levels, (((3,),), ((1, 2), ())))
        # Nothing but the file tells of 3: it was put and struck.
        missing = self.missing(store, tuple(rows[:2]))
        self.assertEqual(missing[3], (("put", 0, 5), ("strike", 0, 5)))
        self.assertTrue(same((missing.puts, missing.struck, missing.least), (((3, 0, 5),), ((3, 0, 5),), 1)))
        # A mark that tells it to be present is enough.
        missing = self.missing(store, tuple(rows[:3]))
        self.assertEqual(missing[3], (("strike", 3, 5),))
        missing = self.missing(store, (rows[0], rows[1], rows[3]))
        self.assertEqual(missing[3], (("put", 0, 4),))
        self.assertEqual(missing.least, 0)

    def test_ghosts_without_a_mark(self):
        store = Store(SMALL)
        for key in (1, 2, 5, 6):
            store.put(key, "")
        store.rebuild()
        self.assertEqual(store.levels, (((5,),), ((1, 2), (5, 6))))
        start = store.table
        store.put(7, "")
        store.strike_range(6, 7)
        self.assertEqual(store.levels[-1], ((1, 2), (5,), ()))
        # The start is unknown: the ghost of 7 tells of a strike, but it may have been there from the start on.
        missing = Missing(SMALL, store.file, ())
        self.assertEqual(missing[7], (("strike", 5, 8),))
        self.assertTrue(same((missing.puts, missing.struck), ((), ((7, 5, 8),))))
        missing = Missing(SMALL, store.file, (), start=start)
        self.assertEqual(missing[7], (("put", 5, 8), ("strike", 5, 8)))
        self.assertEqual(missing[6], (("strike", 5, 8),))
        # A ghost that only ranges tell of, and these to be absent.
        store.strike_range(7, 9)
        missing = Missing(SMALL, store.file, (store.last[:3],))
        self.assertEqual(missing[7], (("strike", 5, 9),))

    def test_shares(self):
        store = Store(SMALL)
        rows = self.rows_of(store, *[("put", key, "") for key in range(6)], ("strike", 4), ("strike", 5), ("strike", 2))
        self.assertEqual(strike_rows(Tree(SMALL, store.levels)), (("leaf", 1, 1), ("leaf", 2, 1)))
        missing = self.missing(store, tuple(rows[:6]))
        self.assertTrue(same((missing.least, missing.shares), (3, (("leaf", 1, 1), ("leaf", 2, 2)))))
        missing = self.missing(store, tuple(rows[:7]))
        self.assertTrue(same((missing.least, missing.shares), (2, (("leaf", 1, 1), ("leaf", 2, 1)))))
        missing = self.missing(store, tuple(rows[:8]))
        self.assertTrue(same((missing.least, missing.shares), (1, (("leaf", 1, 1),))))

    def test_not_its_log(self):
        store = Store(SMALL)
        rows = self.rows_of(store, ("put", 1, "a"), ("put", 2, "b"), ("strike", 1), ("put", 4, ""), ("put", 3, ""))
        other = [(1, ("put", 9, "a"), ()), (2, ("put", 2, "c"), ()), (2, ("put", 7, "c"), ()), (3, ("strike", 2), (2,)),
                 (4, ("strike range", 0, 9), ()), (5, ("put", 3, "z"), ()), (5, ("put", 4, "z"), ())]
        for row in other:
            at = row[0] - 1
            told = tuple(rows[:at] + [row] + rows[at + 1:])
            gaps = model_gaps(store.file, told, None, KEYS)
            self.assertTrue(gaps)
            with self.assertRaises(NotItsLog) as caught:
                self.missing(store, told)
            self.assertTrue(same(caught.exception.key, gaps[0][0]))
            # With another entry missing at the right place the gaps may be filled.
            for gone in range(5):
                less = told[:gone] + told[gone + 1:]
                lost = [key for key, _, after, before in model_gaps(store.file, less, None, KEYS)
                        if not after < gone + 1 < before]
                if lost:
                    with self.assertRaises(NotItsLog) as caught:
                        self.missing(store, less)
                    self.assertTrue(same(caught.exception.key, lost[0]))
                else:
                    self.assertEqual(self.missing(store, less).numbers, (gone + 1,))


class Wrong(unittest.TestCase):
    def setUp(self):
        self.rng, self.store, self.rows, self.start = history(SMALL, 8, 24, rebuilds=0)
        self.later = self.store.twin()
        self.later.rebuild()
        self.table = self.later.table
        self.tail = []
        for key in range(6):
            self.later.put(70 + key, "")
            self.tail.append(self.later.last[:3])

    def invalid_row(self, index, rows, **start):
        with self.assertRaises(InvalidRow) as caught:
            Missing(SMALL, self.later.file, rows, **start)
        self.assertTrue(same(caught.exception.index, index))

    def test_rows_that_do_not_fit(self):
        tail = tuple(self.tail)
        self.assertEqual(len(Missing(SMALL, self.later.file, tail, start=self.table)), 0)
        first = tail[0][0]
        for at, row in enumerate(tail):
            self.invalid_row(at + 1, tail[:at] + (row, row) + tail[at + 1:])
            if at > 0:
                self.invalid_row(at, tail[:at - 1] + (row, tail[at - 1]) + tail[at + 1:])
        # Before the last rebuild, the rebuild itself, behind the end.
        for number in (1, first - 2, first - 1, 0, -1, first + 6, 10 ** 40):
            self.invalid_row(0, ((number, ("put", 1, ""), ()),))
            self.invalid_row(0, ((number, ("put", 1, ""), ()), None))
        for at in range(6):
            row = (first + at, ("rebuild",), ())
            self.invalid_row(at, tail[:at] + (row,) + tail[at + 1:])
        self.invalid_row(6, tail + ((first + 6, ("put", 1, ""), ()),))

    def test_bent_rows(self):
        rows = ((self.tail[0][0], ("put", 70, ""), ()), (self.tail[2][0], ("strike range", 5, 9), (6, 8)),
                (self.tail[4][0], ("strike", 9), (9,)))
        met = 0
        for at, row in enumerate(rows):
            for value in variants(row):
                told = rows[:at] + (value,) + rows[at + 1:]
                if not plain_row(value):
                    met += 1
                    self.invalid_row(at, told)
        self.assertGreater(met, 1000)
        for value in ODD_VALUES + [list(rows[0]), rows[0] + ((),), rows[0][:2]]:
            self.invalid_row(0, (value,))
            self.invalid_row(3, rows + (value, None))

    def test_starts(self):
        for value in ODD_VALUES + [((2, "a"), (1, "b")), ((1, "a"), (1, "a")), ((1, "a%"),), ((True, ""),), [(1, "")],
                                   ([1, ""],), ((1,),), ((1, "", ""),), ((1, 2),), (1, ""), {1: ""}]:
            if value is None or type(value) is tuple and value == ():
                continue
            for file in (self.store.file, self.later.file):
                with self.assertRaises(InvalidStart):
                    Missing(SMALL, file, (None,), start=value)
        # A table that is not empty, with born 0.
        for start in (((1, ""),), self.store.table):
            with self.assertRaises(InvalidStart):
                Missing(SMALL, self.store.file, self.rows, start=start)
        for start in ((), None):
            self.assertEqual(len(Missing(SMALL, self.store.file, self.rows, start=start)), 0)
        # A table that is not that of the moment.
        with self.assertRaises(NotItsLog) as caught:
            Missing(SMALL, self.later.file, tuple(self.tail), start=((-9, ""),) + self.table)
        self.assertTrue(same(caught.exception.key, -9))
        with self.assertRaises(NotItsLog) as caught:
            Missing(SMALL, self.later.file, tuple(self.tail), start=self.table[1:])
        self.assertTrue(same(caught.exception.key, self.table[0][0]))

    def test_not_sound(self):
        for value in list(variants(Store(SMALL).file)) + ODD_VALUES:
            right = model_file_fault(SMALL, value)
            if right is not None:
                with self.assertRaises(NotSound) as caught:
                    Missing(SMALL, value, (None,), start=7)
                self.assertTrue(same((caught.exception.page, caught.exception.word), right))

    def test_the_order_of_the_errors(self):
        rule = Rule(2, 2, 2, 2)
        close = file_of(Tree(rule, (((5, 6),), ((1, 2), (5,), (6, 7)))), born=2, commit=9)
        lead = file_of(Tree(SMALL, (((7,),), ((5,), (8, 9)), ((1, 2), (5,), (7,), (8,), (9,)))), born=2, commit=9)
        for rules, file, error, name, value in [(rule, close, NoRoom, "leaf", 1),
                                                (SMALL, lead, NoHistory, "fault", (1, 1, "lead"))]:
            with self.assertRaises(NotSound):
                Missing(rules, file[1:], (None,), start=7)
            with self.assertRaises(InvalidStart):
                Missing(rules, file, (None,), start=7)
            with self.assertRaises(InvalidRow):
                Missing(rules, file, (None,), start=())
            every = tuple((number, ("put", 99, ""), ()) for number in range(3, 10))
            for rows in ((), every):
                with self.assertRaises(error) as caught:
                    Missing(rules, file, rows, start=())
                self.assertTrue(same(getattr(caught.exception, name), value))
        with self.assertRaises(NotItsLog):
            Missing(SMALL, self.later.file, tuple(self.tail), start=())

    def test_many_rows(self):
        store, rows = Store(Rule(8, 8, 8, 8)), []
        rng = random.Random(5)
        for _ in range(1000):
            key = rng.randrange(200)
            store.do(rng.choice([("put", key, str(key)), ("strike range", key, key + 5)]))
            rows.append(store.last[:3])
        some = some_rows(rng, rows, 0.5)
        missing = Missing(store.rule, store.file, some)
        self.assertEqual(len(missing), 1000 - len(some))
        gaps = model_gaps(store.file, some, None, range(0, 210))
        self.assertEqual(missing.puts, tuple(gap[:1] + gap[2:] for gap in gaps if gap[1] == "put"))
        self.assertEqual(len(Missing(store.rule, store.file, tuple(rows))), 0)


class Shown(unittest.TestCase):
    def check(self, missing, rule, sizes, gaps, pairs, value):
        right = None
        if type(value) is tuple and len(value) == 2 and type(value[0]) is tuple:
            known = all(any(same(gap, other) for other in gaps) for gap in value[0])
            if known and len(set(value[0])) == len(value[0]):
                right = model_sum(rule, sizes, pairs, value[1])
        self.assertIs(shows_missing(missing, value), right is not None)
        self.assertTrue(same(sure_by(missing, value), right))
        return right

    def samples(self):
        for number, rule in enumerate(RULES):
            for seed in range(2):
                rng, store, rows, start = history(rule, 70 * seed + number, 60)
                some = some_rows(rng, rows, 0.5)
                missing = Missing(rule, store.file, some, start=start)
                gaps = model_gaps(store.file, some, start, KEYS)
                yield rng, missing, rule, shape_of(store.levels)[0], gaps, told_pairs(rule, store.file, some, gaps)

    def test_right_pairs(self):
        met = 0
        for rng, missing, rule, sizes, gaps, pairs in self.samples():
            shares = missing.shares
            some = tuple(rng.sample(gaps, len(gaps) // 2))
            for told in ((), tuple(gaps), some, tuple(gaps[::-1])):
                self.assertEqual(self.check(missing, rule, sizes, gaps, pairs, (told, ())), 0)
                self.assertEqual(self.check(missing, rule, sizes, gaps, pairs, (told, shares)), missing.least)
                self.assertEqual(self.check(missing, rule, sizes, gaps, pairs, (told, shares[::-1])), missing.least)
                for row in shares:
                    met += 1
                    self.assertEqual(self.check(missing, rule, sizes, gaps, pairs, (told, (row,))), row[-1])
            self.assertIs(shows_missing(missing=missing, value=((), ())), True)
            self.assertTrue(same(sure_by(missing=missing, value=((), ())), 0))
        self.assertGreater(met, 50)

    def test_wrong_pairs(self):
        bent = 0
        for rng, missing, rule, sizes, gaps, pairs in self.samples():
            shares = missing.shares
            for at, row in enumerate(shares):
                for other in (row[:-1] + (row[-1] + 1,), row[:-1] + (0,), row[:-1] + (True,), list(row), row[:1] + row[2:],
                              (row[0], row[1] + 1) + row[2:], (row[0], -1) + row[2:]):
                    self.check(missing, rule, sizes, gaps, pairs, ((), shares[:at] + (other,) + shares[at + 1:]))
                self.assertIsNone(self.check(missing, rule, sizes, gaps, pairs, ((), shares + (row,))))
            for gap in gaps[:5]:
                self.assertIsNone(self.check(missing, rule, sizes, gaps, pairs, ((gap, gap), ())))
                for other in (gap[1:], gap + (1,), list(gap), gap[:2] + (gap[2] + 1, gap[3]), (gap[0], "strikes") + gap[2:],
                              (gap[0] + 100,) + gap[1:], gap[:3] + (None,), gap[:1] + gap[2:]):
                    bent += 1
                    self.assertIsNone(self.check(missing, rule, sizes, gaps, pairs, ((other,), ())))
            every = [("leaf", leaf, 1) for leaf in range(len(sizes[-1]) + 1)]
            every += [("lead", level, page, 1) for level in range(len(sizes)) for page in range(len(sizes[level]))]
            for row in every:
                self.check(missing, rule, sizes, gaps, pairs, ((), (row,)))
            self.check(missing, rule, sizes, gaps, pairs, ((), tuple(every)))
            # Of rows that fit each for itself, those about one leaf do not fit together.
            fit = [row for row in every if self.check(missing, rule, sizes, gaps, pairs, ((), (row,))) is not None]
            for row in fit:
                for other in fit:
                    self.check(missing, rule, sizes, gaps, pairs, ((), (row, other)))
        self.assertGreater(bent, 300)

    def test_bools_are_no_numbers(self):
        store = Store(SMALL)
        store.put(1, "a")
        store.put(0, "b")
        missing = Missing(SMALL, store.file, ())
        self.assertEqual(missing.puts, ((0, 0, 3), (1, 0, 3)))
        self.assertIs(shows_missing(missing, (((1, "put", 0, 3),), ())), True)
        for gap in [(True, "put", 0, 3), (1, "put", False, 3), (0, "put", False, 3), (1, "put", 0, "3"), ([1], "put", 0, 3),
                    (1, ["put"], 0, 3), (1, None, 0, 3), (1, "put", 0, [3]), (1, "put", [0], 3)]:
            self.assertIs(shows_missing(missing, ((gap,), ())), False)
            self.assertIsNone(sure_by(missing, ((gap,), ())))

    def test_any_values(self):
        rng, store, rows, start = history(SMALL, 3, 30, rebuilds=0)
        missing = Missing(SMALL, store.file, some_rows(rng, rows, 0.5))
        for value in ODD_VALUES + [((), (), ()), ((),), [(), ()], ((), []), ([], ()), ({}, ())]:
            self.assertIs(shows_missing(missing, value), False)
            self.assertIsNone(sure_by(missing, value))
        for value in ODD_VALUES + [BIG]:
            for pair in ((value, ()), ((), value), ((value,), ()), ((), (value,))):
                right = type(value) is tuple and value == () and pair[0] in ((), value) and pair[1] in ((), value)
                self.assertIs(shows_missing(missing, pair), right)


class Tables(unittest.TestCase):
    def test_the_rest_of_the_log_fills_the_gaps(self):
        """A table that is played from the start over the rows and the missing ones is that of the file."""
        for number, rule in enumerate(RULES):
            rng, store, rows, start = history(rule, number + 500, 50)
            table = dict(start)
            for _, deed, keys in rows:
                for key in keys:
                    del table[key]
                if deed[0] == "put":
                    table[deed[1]] = deed[2]
            self.assertEqual(tuple(sorted(table.items())), table_of(store.file))


if __name__ == "__main__":
    unittest.main()
