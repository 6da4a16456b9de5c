"""One history through all parts of the program, held against one plain table."""

import random
import unittest

from splitscar.backups import Backup, restored
from splitscar.commits import applied
from splitscar.desk import Desk
from splitscar.entries import changes_between, is_entry, is_row
from splitscar.evidence import Evidence
from splitscar.falls import falls
from splitscar.filecheck import is_sound, leaf_pages, tree_of
from splitscar.hands import Crew
from splitscar.images import empty_file, tree_pages
from splitscar.later import struck_between
from splitscar.logged import LoggedStore
from splitscar.missing import Missing
from splitscar.missingcheck import sure_by
from splitscar.reader import read_file, read_levels
from splitscar.recovery import mended, recovered, recovery_right
from splitscar.roomcheck import played_keys
from splitscar.rooms import fewest_strikes
from splitscar.rules import Rule
from splitscar.scans import table_of
from splitscar.serial import serial_fault, table_after
from splitscar.store import CountingStore, GuardedStore, Store
from splitscar.texts import show_file, show_levels

from tests.file_models import random_deed
from tests.hand_models import random_hands
from tests.helpers import RULES, numbers_of, same


class Plain:
    """The table, and all that deeds did to it."""

    def __init__(self):
        self.table = {}
        self.tables = [()]
        self.rows = []
        self.played = []
        self.born = 0

    def do(self, deed):
        """Does a deed; returns the keys that it struck."""
        struck = ()
        if deed[0] == "put":
            self.played += [("put", deed[1])] if deed[1] not in self.table else []
            self.table[deed[1]] = deed[2]
        elif deed[0] == "rebuild":
            self.born, self.played = len(self.tables), []
        else:
            struck = tuple(sorted(key for key in self.table if deed[1] <= key <= deed[-1]))
            for key in struck:
                del self.table[key]
                self.played.append(("strike", key))
        self.tables.append(tuple(sorted(self.table.items())))
        self.rows.append((len(self.rows) + 1, deed, struck))
        return struck


class Whole:
    """All parts that go through the history at the same time."""

    def __init__(self, test, rule, seed):
        self.test, self.rule, self.rng = test, rule, random.Random(seed)
        self.plain = Plain()
        self.logged = LoggedStore(rule)
        self.counting, self.guarded = CountingStore(rule), GuardedStore(rule)
        self.twin = self.logged.twin()
        self.desk = Desk()
        self.desk.say("rule " + " ".join(map(str, numbers_of(rule))))
        self.files = [empty_file()]
        self.evidences = [Evidence(rule, empty_file())]
        self.backup = None

    def stores(self):
        return (self.logged, self.counting, self.guarded, self.twin)

    def do(self, deed):
        """Does a deed in all parts."""
        media, file = self.logged.media, self.logged.file
        struck = self.plain.do(deed)
        number = len(self.plain.rows)
        for store in self.stores():
            self.test.assertEqual(store.do(deed), number)
            self.test.assertEqual(store.last[:3], (number, deed, struck))
            self.test.assertTrue(is_entry(store.last) and is_row(store.last[:3]))
        self.test.assertEqual(changes_between(file, self.logged.file), self.logged.last[3])
        line = self.line_of(deed)
        told = (number, *struck) if deed[0] == "strike range" else (number,)
        self.test.assertEqual(self.desk.say(line), " ".join(map(str, told)))
        self.files.append(self.logged.file)
        self.evidences.append(Evidence.of(self.logged))
        self.fallen(media, file)
        self.check()

    def line_of(self, deed):
        if deed[0] == "put":
            return f"put {deed[1]} =" + deed[2].replace("~", "~~").replace(" ", "~_")
        return " ".join(map(str, (deed[0].replace("strike range", "range"), *deed[1:])))

    def fallen(self, media, file):
        """A fall during the write leaves the table before or behind it."""
        left = list(falls(media, ("write", self.logged.last)))
        self.test.assertEqual([table_of(recovered(one)) for one in left],
                              [self.plain.tables[-2], self.plain.tables[-2], self.plain.tables[-1]])
        self.test.assertTrue(recovery_right(mended(left[1]), file))
        again = LoggedStore.recover(self.rule, left[1])
        self.test.assertEqual(again.do(self.logged.last[1]), self.logged.commit)
        self.test.assertEqual(again, self.logged)

    def check(self):
        """What all parts show is the plain table."""
        test, table = self.test, self.plain.tables[-1]
        file, levels = self.logged.file, self.logged.levels
        for store in self.stores():
            test.assertEqual((store.table, store.file, store.born), (table, file, self.plain.born))
        test.assertTrue(is_sound(self.rule, file))
        tree = tree_of(self.rule, file)
        test.assertEqual(tree.stored, tuple(key for key, _ in table))
        pages = [number for level, _, number in tree_pages(file) if level == tree.depth - 1]
        test.assertEqual(leaf_pages(self.rule, file), tuple(pages))
        test.assertEqual(read_file(show_file(file)), file)
        test.assertEqual(read_levels(self.rule, show_levels(levels)), levels)
        if self.plain.born == 0:
            test.assertEqual(played_keys(self.rule, tuple(self.plain.played)).levels, levels)
        self.evidence_holds()

    def evidence_holds(self):
        test, evidence = self.test, self.evidences[-1]
        struck = [key for word, key in self.plain.played if word == "strike"]
        test.assertLessEqual(evidence.fewest, len(struck))
        test.assertEqual(evidence.fewest, self.guarded.fewest)
        test.assertEqual(self.counting.struck, len(struck))
        test.assertTrue(set(evidence.struck_keys) <= set(struck))
        test.assertEqual(evidence.table, self.plain.tables[-1])
        if not struck:
            test.assertEqual(evidence.verdict()[0], "grown")
        elif evidence.fewest + len(evidence) < 250:
            test.assertTrue(evidence.shows(evidence.paper()))
        first = self.rng.randrange(self.plain.born, len(self.files))
        keys = struck_between(self.evidences[first], evidence)
        test.assertTrue(set(keys) <= {key for _, _, told in self.plain.rows[first:] for key in told})

    def meanwhile(self):
        """Flushes, checkpoints and backups between the deeds."""
        luck, dirty = self.rng.random(), self.logged.media.dirty
        if luck < 0.3 and dirty:
            self.logged.flush(*self.rng.sample(dirty, self.rng.randrange(1, len(dirty) + 1)))
        elif luck < 0.35:
            self.logged.checkpoint()
        elif luck < 0.5 and self.backup is None:
            self.backup = Backup(self.logged)
        if self.backup is not None and self.backup.missing:
            self.backup.fetch(self.rng.choice(self.backup.missing))
        self.test.assertEqual(recovered(self.logged.media), self.logged.file)

    def finish_backup(self):
        self.backup = self.backup or Backup(self.logged)
        self.backup.fetch()
        told = self.backup.finish()
        for number in range(told[1], len(self.files)):
            self.test.assertEqual(restored(told, self.logged.entries, upto=number), self.files[number])
        self.test.assertEqual(table_of(restored(told)), self.plain.tables[told[1]])

    def missing_entries(self):
        """The log with some entries left out."""
        born = self.plain.born
        rows = self.plain.rows[born:]
        for share in (0, 0.5, 0.9, 1):
            some = tuple(row for row in rows if self.rng.random() < share)
            told = [row[0] for row in some]
            start = self.rng.choice([None, self.plain.tables[born]])
            missing = Missing(self.rule, self.logged.file, some, start=start)
            lost = [row for row in rows if row[0] not in told]
            self.test.assertEqual(missing.numbers, tuple(row[0] for row in lost))
            self.test.assertLessEqual(missing.least, sum(len(row[2]) for row in lost))
            every = tuple((key, word, after, before) for key in range(-40, 140) if key in missing
                          for word, after, before in missing[key])
            self.test.assertEqual(sure_by(missing, (every, missing.shares)), missing.least)

    def hands(self):
        """Hands that go on from here: their commits go through all parts in order."""
        crew = Crew(self.logged.twin(), *random_hands(self.rng, 3, range(40)))
        while not crew.is_done:
            crew.turn(self.rng.choice(crew.ready))
        self.test.assertIsNone(serial_fault(self.plain.tables[-1], crew.rows))
        after = table_after(self.plain.tables[-1], crew.rows)
        for row in crew.rows:
            if row[0] == "commit":
                self.do(row[2])
                self.test.assertEqual(self.plain.rows[-1][0::2], (row[3], row[4]))
        self.test.assertEqual(self.plain.tables[-1], after)
        self.test.assertTrue(same(crew.store.file, self.logged.file))
        self.test.assertEqual(crew.store.entries, self.logged.entries)

    def back(self):
        """The desk goes back deed by deed."""
        many = len(self.plain.rows)
        for count in sorted(self.rng.sample(range(1, many + 1), min(4, many))):
            desk = Desk()
            desk.say_all("rule " + " ".join(map(str, numbers_of(self.rule))),
                         *[self.line_of(row[1]) for row in self.plain.rows], f"undo {count}")
            self.test.assertEqual(desk.say("file"), show_file(self.files[-1 - count]).replace("\n", " / "))


class History(unittest.TestCase):
    def test_one_history(self):
        for number, rule in enumerate(RULES):
            whole = Whole(self, rule, number)
            for _ in range(20):
                whole.do(random_deed(whole.rng, whole.plain.tables[-1], range(40)))
                whole.meanwhile()
            whole.hands()
            whole.finish_backup()
            whole.missing_entries()
            whole.back()
            self.assertEqual(applied(empty_file(), *whole.logged.entries), whole.logged.file)

    def test_without_a_strike(self):
        """Puts and rebuilds alone never show a strike."""
        for number, rule in enumerate(RULES):
            rng, store = random.Random(number), Store(rule)
            for _ in range(80):
                store.do(rng.choice([("put", rng.randrange(200), "x" * rng.randrange(12))] * 40 + [("rebuild",)]))
                evidence = Evidence.of(store)
                self.assertEqual((evidence.fewest, evidence.struck_keys, evidence.verdict()[0]), (0, (), "grown"))

    def test_large_stores(self):
        rule, rng = Rule(3, 2, 3, 2), random.Random(1)
        store = LoggedStore(rule)
        for _ in range(900):
            deed = random_deed(rng, store.table, range(400), rebuilds=0.002)
            store.do(deed if len(store.file) < 800 else ("strike range", 0, 60))
            if rng.random() < 0.02:
                store.checkpoint()
        self.assertTrue(is_sound(rule, store.file))
        self.assertEqual(recovered(store.media), store.file)
        evidence = Evidence.of(store)
        self.assertEqual(evidence.fewest, fewest_strikes(evidence.tree))
        rows = tuple(entry[:3] for entry in store.entries if entry[0] > store.born)
        self.assertEqual(len(Missing(rule, store.file, rows)), 0)
        less = Missing(rule, store.file, rows[::2])
        self.assertEqual(len(less), len(rows) - len(rows[::2]))


if __name__ == "__main__":
    unittest.main()
