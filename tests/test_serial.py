import random
import unittest

from splitscar.hands import Crew
from splitscar.rules import Rule
from splitscar.serial import is_serial, serial_fault, table_after
from splitscar.store import GuardedStore, Store

from tests.hand_models import random_hands
from tests.helpers import BIG, ODD_VALUES, RULES, same
from tests.serial_models import model_serial_fault
from tests.test_hands import filled
from tests.variants import variants

SMALL = Rule(2, 1, 2, 2)
TABLE = ((1, "a"), (3, "b"), (5, "c"))


def schedules(rules, seeds, most_jobs=4):
    """Tables with the rows of hands that went on from them, and the table behind these."""
    for number, rule in enumerate(rules):
        for seed in range(seeds):
            rng = random.Random(1000 * seed + number)
            made = rng.choice([Store, GuardedStore])
            store = filled(made, rule, seed, rng.choice([2, 9]), keys=range(12))
            if made is GuardedStore:
                store.most = store.fewest
            records = store.table
            crew = Crew(store, *random_hands(rng, rng.randrange(1, 5), range(12), most_jobs))
            while not crew.is_done:
                crew.turn(rng.randrange(len(crew)))
            yield records, crew.rows, store.table


class Fits(unittest.TestCase):
    def test_real_schedules(self):
        for records, rows, table in schedules(RULES, 6):
            self.assertIsNone(serial_fault(records, rows))
            self.assertIs(is_serial(records, rows), True)
            self.assertIsNone(model_serial_fault(records, rows))
            self.assertTrue(same(table_after(records, rows), table))

    def test_no_rows(self):
        self.assertIsNone(serial_fault((), ()))
        self.assertIsNone(serial_fault(records=TABLE, rows=()))
        self.assertIs(is_serial(records=TABLE, rows=()), True)
        self.assertTrue(same(table_after(records=TABLE, rows=()), TABLE))

    def test_table_after(self):
        rows = (("commit", 0, ("put", 4, "x"), 9, ()), ("commit", 3, ("strike range", 0, 3), 10, (1, 3)),
                ("commit", 1, ("put", 5, "z"), 11, ()), ("refused", 2, ("put", 6, "z"), "Full"),
                ("commit", 2, ("rebuild",), 12, ()), ("commit", 2, ("put", -8, ""), 13, ()))
        self.assertIsNone(serial_fault(TABLE, rows))
        self.assertTrue(same(table_after(TABLE, rows), ((-8, ""), (4, "x"), (5, "z"))))


class Faults(unittest.TestCase):
    def check(self, records, rows):
        right = model_serial_fault(records, rows)
        self.assertTrue(same(serial_fault(records, rows), right), rows)
        self.assertIs(is_serial(records, rows), right is None)
        return right

    def test_rows_left_out_twice_and_exchanged(self):
        words = {}
        for records, rows, table in schedules(RULES[::2], 3):
            for at in range(len(rows)):
                other = (at * 7 + 3) % len(rows)
                moved = list(rows)
                moved[at], moved[other] = moved[other], moved[at]
                for changed in (rows[:at] + rows[at + 1:], rows[:at] + rows[at:at + 1] + rows[at:], tuple(moved),
                                rows[at:], rows[:at]):
                    fault = self.check(records, changed)
                    word = fault[1] if fault else None
                    words[word] = words.get(word, 0) + 1
        for word in (None, "number", "struck", "read", "scan"):
            self.assertGreater(words.get(word, 0), 5, word)

    def test_other_tables(self):
        for records, rows, table in schedules(RULES[::3], 4):
            for at in range(len(records)):
                self.check(records[:at] + records[at + 1:], rows)
                self.check(records[:at] + ((records[at][0], "other"),) + records[at + 1:], rows)
            self.check(records + ((99, ""),), rows)
            self.check((), rows)

    def test_one_item_otherwise(self):
        others = [None, True, False, 0, 1, -1, 3, 4, 5, 12, BIG, "", "a", "NoKey", "Full", "TooScarred", "get", "scan",
                  "a%", "x" * 41, (), (1,), ((1, "a"),), ((3, "b"), (1, "a")), [], {}, ("get", 3), ("strike", 3),
                  ("rebuild",), ("scan", 0, 9)]
        words = {}
        for records, rows, table in schedules([SMALL, Rule(1, 2, 2, 2)], 2, most_jobs=2):
            for at, row in enumerate(rows):
                for value in variants(row, others):
                    fault = self.check(records, rows[:at] + (value,) + rows[at + 1:])
                    word = fault[1] if fault else None
                    words[word] = words.get(word, 0) + 1
        for word in (None, "form", "number", "struck", "refused", "get", "read", "scan"):
            self.assertGreater(words.get(word, 0), 2, word)

    def test_any_values(self):
        for value in ODD_VALUES + [[], [("idle", 0)], {0: ("idle", 0)}, "idle", (("idle", 0), None), (["idle", 0],)]:
            fault = self.check(TABLE, value)
            self.assertTrue(fault is None or fault[1] == "form")
        for value in ODD_VALUES:
            if not isinstance(value, tuple):
                self.assertTrue(same(serial_fault(TABLE, value), (None, "form")))
            self.assertTrue(same(serial_fault(TABLE, (("idle", 1), value)), (1, "form")))


class Words(unittest.TestCase):
    def fits(self, *rows):
        self.assertIsNone(serial_fault(TABLE, rows))
        self.assertIsNone(model_serial_fault(TABLE, rows))

    def wrong(self, word, *rows):
        """The last row has the fault with this word."""
        right = (len(rows) - 1, word)
        self.assertTrue(same(serial_fault(TABLE, rows), right), (rows, serial_fault(TABLE, rows)))
        self.assertTrue(same(model_serial_fault(TABLE, rows), right))
        self.assertTrue(same(serial_fault(TABLE, rows + (None,)), right))

    def test_form(self):
        good = [
            ("take", 0, 0), ("take", 3, 10 ** 40), ("wait", 0, 0), ("wait", 3, None), ("idle", 0), ("idle", 3),
            ("read", 1, ("scan", 1, 3), ((1, "a"), (3, "b"))), ("read", 1, ("scan", 3, 1), ()),
            ("told", 2, ("get", 1), "a"), ("told", 2, ("get", 2), None), ("commit", 0, ("rebuild",), 1, ()),
            ("refused", 0, ("strike", 2), "NoKey"),
        ]
        for row in good:
            self.fits(row)
        bad = [
            ("take", 4, 0), ("take", -1, 0), ("take", True, 0), ("take", 0, -1), ("take", 0, None), ("take", 0, True),
            ("take", 0), ("take", 0, 0, 0), ("wait", 0, -1), ("wait", 0, False), ("wait", 0), ("wait", 4, None),
            ("idle",), ("idle", 4), ("idle", 0, None), ("idle", None), ("rest", 0), (0, 0), (None, 0), ((), 0), ([], 0),
            ("read", 1, ("get", 1), ((1, "a"),)), ("read", 1, ("scan", 1, 3), [(1, "a")]),
            ("read", 1, ("scan", 1, 3), ([1, "a"],)), ("read", 1, ("scan", 1, 3), ((1, "a%"),)),
            ("read", 1, ("scan", 1, 3), ((True, "a"),)), ("read", 1, ("scan", 1), ()), ("read", 1, ("scan", 1, 3)),
            ("told", 2, ("get", 1), ()), ("told", 2, ("get", 1), 1), ("told", 2, ("get", 1), "x" * 41),
            ("told", 2, ("scan", 1, 3), None), ("told", 2, ("scan", 1, 3), "a"), ("told", 2, ("strike", 1), None),
            ("told", 2, ("scan", 1, 3), ((1, "a", 2),)), ("told", 2, ("get", BIG), None),
            ("commit", 0, ("rebuild",), 0, ()), ("commit", 0, ("rebuild",), True, ()), ("commit", 0, ("get", 1), 1, ()),
            ("commit", 0, ("rebuild",), 1, []), ("commit", 0, ("rebuild",), 1, (None,)),
            ("commit", 0, ("rebuild",), 1, (BIG,)), ("commit", 0, ("rebuild",), 1), ("commit", 0, ("rebuild",), -4, ()),
            ("refused", 0, ("strike", 2), "NoHand"), ("refused", 0, ("strike", 2), None), ("refused", 0, ("get", 2), "NoKey"),
            ("refused", 0, ("strike", 2), ["NoKey"]), ("refused", 0, ("scan", 2, 3), "Full"), ["idle", 0],
        ]
        for row in bad:
            self.wrong("form", row)
            self.wrong("form", ("take", 0, 0), ("idle", 2), row)

    def test_number(self):
        first = ("commit", 0, ("rebuild",), 7, ())
        self.fits(first, ("idle", 1), ("commit", 2, ("put", 1, ""), 8, ()), ("commit", 0, ("rebuild",), 9, ()))
        for number in (7, 6, 9, 1, 10 ** 30):
            self.wrong("number", first, ("commit", 2, ("rebuild",), number, ()))
            # The number comes before the struck keys.
            self.wrong("number", first, ("commit", 2, ("rebuild",), number, (1,)))

    def test_struck(self):
        self.fits(("commit", 0, ("strike", 3), 1, (3,)), ("commit", 0, ("strike range", 1, 5), 2, (1, 5)),
                  ("commit", 0, ("strike range", 1, 5), 3, ()), ("commit", 0, ("strike range", 5, 1), 4, ()))
        self.fits(("commit", 0, ("strike range", 1, 5), 1, (1, 3, 5)))
        for deed, struck in [
            (("strike", 3), ()), (("strike", 3), (1,)), (("strike", 3), (3, 3)), (("strike", 2), (2,)),
            (("strike", 2), ()), (("strike range", 1, 3), (1,)), (("strike range", 1, 3), (3, 1)),
            (("strike range", 1, 3), (1, 3, 5)), (("strike range", 1, 3), (1, 1, 3)), (("strike range", 3, 1), (3,)),
            (("put", 3, ""), (3,)), (("put", 4, ""), (4,)), (("rebuild",), (1, 3, 5)),
        ]:
            self.wrong("struck", ("commit", 0, deed, 1, struck))

    def test_refused(self):
        right = [
            (("strike", 2), "NoKey"), (("put", 2, ""), "Full"), (("put", 1, ""), "Full"), (("rebuild",), "Full"),
            (("strike range", 1, 2), "TooScarred"), (("strike range", 2, 1), "TooScarred"), (("strike", 1), "TooScarred"),
        ]
        deeds = [("strike", 1), ("strike", 2), ("put", 2, ""), ("put", 1, ""), ("rebuild",), ("strike range", 1, 2),
                 ("strike range", 2, 1)]
        for deed in deeds:
            for word in ("NoKey", "Full", "TooScarred"):
                if (deed, word) in right:
                    self.fits(("refused", 0, deed, word))
                else:
                    self.wrong("refused", ("refused", 0, deed, word))

    def test_get(self):
        self.fits(("told", 0, ("get", 1), "a"), ("told", 0, ("get", 2), None))
        for key, answer in [(1, None), (1, "b"), (1, ""), (2, ""), (2, "a")]:
            self.wrong("get", ("told", 0, ("get", key), answer))
        put = ("commit", 1, ("put", 2, "z"), 1, ())
        self.fits(put, ("told", 0, ("get", 2), "z"))
        self.wrong("get", put, ("told", 0, ("get", 2), None))

    def test_read(self):
        scan = ("scan", 1, 4)
        self.fits(("read", 0, scan, ((1, "a"), (3, "b"))), ("read", 0, scan, ()))
        self.fits(("read", 0, scan, ((1, "a"),)), ("read", 0, scan, ((3, "b"),)))
        for pairs in [((1, "b"),), ((2, "a"),), ((5, "c"),), ((3, "b"), (1, "a")), ((1, "a"), (1, "a"))]:
            self.wrong("read", ("read", 0, scan, pairs))
            self.wrong("read", ("read", 0, scan, ()), ("read", 0, scan, pairs))
        self.wrong("read", ("read", 0, scan, ((3, "b"),)), ("read", 0, scan, ((1, "a"),)))
        self.wrong("read", ("read", 0, scan, ((3, "b"),)), ("read", 0, scan, ()), ("read", 0, scan, ((3, "b"),)))
        for other in (("scan", 1, 3), ("scan", 0, 4)):
            self.wrong("read", ("read", 0, scan, ()), ("read", 0, other, ()))
            # Another hand, or a hand whose job has ended, reads what it wants.
            self.fits(("read", 0, scan, ()), ("read", 1, other, ()))
            self.fits(("read", 0, scan, ((1, "a"), (3, "b"))), ("told", 0, scan, ((1, "a"), (3, "b"))),
                      ("read", 0, other, ((1, "a"),)))

    def test_scan(self):
        scan, pairs = ("scan", 1, 4), ((1, "a"), (3, "b"))
        read = ("read", 0, scan, pairs)
        self.fits(read, ("told", 0, scan, pairs))
        self.fits(("read", 0, scan, pairs[:1]), ("read", 0, scan, pairs[1:]), ("told", 0, scan, pairs))
        self.fits(("read", 0, ("scan", 4, 1), ()), ("told", 0, ("scan", 4, 1), ()))
        self.wrong("scan", ("told", 0, scan, pairs))
        self.wrong("scan", ("told", 0, ("scan", 6, 9), ()))
        self.wrong("scan", read, ("told", 1, scan, pairs))
        for answer in [(), pairs[:1], pairs[::-1], pairs + ((5, "c"),), ((1, "a"), (3, "c"))]:
            self.wrong("scan", read, ("told", 0, scan, answer))
        for row in [("told", 0, ("scan", 1, 3), pairs), ("told", 0, ("get", 1), "a"), ("commit", 0, ("rebuild",), 1, ()),
                    ("refused", 0, ("strike", 2), "NoKey")]:
            self.wrong("scan", read, row)
            self.fits(read, ("told", 0, scan, pairs), *[row for row in [row] if row[2][0] != "scan"])
        # The other words come first.
        self.wrong("get", read, ("told", 0, ("get", 1), None))
        self.wrong("struck", read, ("commit", 0, ("rebuild",), 1, (1,)))
        self.wrong("refused", read, ("refused", 0, ("strike", 1), "NoKey"))

    def test_keys_that_were_there_all_the_time(self):
        scan = ("scan", 1, 9)
        first, last = ("read", 0, scan, ((1, "a"),)), ("read", 0, scan, ((5, "c"),))
        told = ("told", 0, scan, ((1, "a"), (5, "c")))
        self.wrong("scan", first, last, told)
        strike = ("commit", 1, ("strike", 3), 1, (3,))
        again = ("commit", 1, ("put", 3, "b"), 2, ())
        self.fits(first, strike, last, told)
        self.fits(first, strike, again, last, told)
        self.fits(first, last, strike, told)
        self.fits(first, strike, last, again, told)
        # A key that was there only before the first read, or since then, may be missing.
        self.fits(strike, first, again, last, told)
        self.fits(first, strike, last, ("commit", 1, ("put", 7, ""), 2, ()), told)
        self.wrong("scan", strike, again, first, last, told)
        # Another value is no strike.
        self.wrong("scan", first, ("commit", 1, ("put", 3, "other"), 1, ()), last, told)
        self.fits(first, ("commit", 1, ("put", 5, "z"), 1, ()), ("read", 0, scan, ((5, "z"),)), strike[:3] + (2, (3,)),
                  ("told", 0, scan, ((1, "a"), (5, "z"))))
        # A pair that was read stays told, also if its key is struck then.
        self.fits(("read", 0, scan, TABLE), strike, ("told", 0, scan, TABLE))


if __name__ == "__main__":
    unittest.main()
