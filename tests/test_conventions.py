"""[2]: any values are looked at without being changed, and answers to "whether" are True or False."""

import copy
import unittest

from splitscar.backups import Backup
from splitscar.before import before, count_before, is_before
from splitscar.betweencheck import shows_way
from splitscar.commits import entry_of
from splitscar.deeds import is_deed
from splitscar.desk import Desk
from splitscar.entries import is_entry, is_row
from splitscar.errors import (
    InvalidDeed, InvalidEvent, InvalidJob, InvalidKey, InvalidMost, InvalidRow, InvalidRule, InvalidStart, InvalidText,
    InvalidTree, InvalidValue, NoHand, NoKey, NoPage, NotSound, NotWritten, UnknownCommand, WrongStep,
)
from splitscar.evidence import Evidence
from splitscar.falls import falls
from splitscar.faults import shows_fault
from splitscar.filecheck import is_sound, leaf_pages, tree_of
from splitscar.hands import Crew, is_job
from splitscar.images import empty_file, is_image
from splitscar.leads import shows_grown
from splitscar.levels import is_levels, leaf_for, spot_of
from splitscar.logged import LoggedStore
from splitscar.media import Media
from splitscar.missing import Missing
from splitscar.missingcheck import shows_missing
from splitscar.ordercheck import shows_order
from splitscar.reader import read_file, read_levels
from splitscar.recovery import recovery_right
from splitscar.roomcheck import played_keys, shows_strikes
from splitscar.rules import Rule
from splitscar.scans import records_in, value_of
from splitscar.serial import is_serial
from splitscar.shapes import is_shape, pages_below
from splitscar.store import GuardedStore, Store, assign_most
from splitscar.trees import Tree

from tests.helpers import ODD_VALUES, same

RULE = Rule(2, 1, 2, 2)
TREE = Tree.grown(RULE, 1, 2, 3)
SHAPE = (((2,), (2, 1)), ())
STORE = GuardedStore(RULE)
MEDIA = Media.blank()
LOGGED = LoggedStore(RULE)
BACKUP = Backup(LOGGED)
CREW = Crew(STORE, [("get", 1)])
EVIDENCE = Evidence(RULE, empty_file())
SECOND = Store(RULE)
SECOND.put(1, "a")
MISSING = Missing(RULE, SECOND.file, ())
DESK = Desk()


def nested(value, depth):
    for _ in range(depth):
        value = [value]
    return value


VALUES = ODD_VALUES + [
    nested(1, 20), nested((), 19), [[[1, 2]]], ([[1]],), [((1,),), ()], ([(1,)], []), [0, 0, "few"], ([0, 0, "few"],),
    {"a": {"b": [1]}}, list(range(4000)), tuple(range(4000)), tuple([] for _ in range(2000)), "x" * 6000, "\n" * 6000,
    {n: [n] for n in range(1000)},
]

WHETHER = {
    "is_levels": lambda value: is_levels(RULE, value),
    "in": lambda value: value in TREE,
    "is_shape": lambda value: is_shape(RULE, value),
    "shows_fault": lambda value: shows_fault(RULE, SHAPE, value),
    "shows_grown": lambda value: shows_grown(RULE, SHAPE, value),
    "shows_order": lambda value: shows_order(TREE, value),
    "equal rules": lambda value: RULE == value,
    "equal trees": lambda value: TREE == value,
    "is_before": lambda value: is_before(TREE, 1, value),
    "shows_way": lambda value: shows_way(TREE, TREE + 4, value),
    "a way": lambda value: shows_way(TREE, TREE + 4, ("way", value)),
    "a closed set": lambda value: shows_way(TREE, TREE + 4, ("never", value)),
    "is_image": lambda value: is_image(value),
    "is_deed": lambda value: is_deed(value),
    "is_row": lambda value: is_row(value),
    "is_entry": lambda value: is_entry(value),
    "in a store": lambda value: value in STORE,
    "equal stores": lambda value: STORE == value,
    "equal media": lambda value: MEDIA == value,
    "recovery_right": lambda value: recovery_right(MEDIA, value),
    "is_job": lambda value: is_job(value),
    "is_serial": lambda value: is_serial((), value),
    "a row of a turn": lambda value: is_serial((), (value,)),
    "rows of a commit": lambda value: is_serial((), (("commit", 0, ("strike range", 1, 2), 1, value),)),
    "equal crews": lambda value: CREW == value,
    "equal backups": lambda value: BACKUP == value,
    "is_sound": lambda value: is_sound(RULE, value),
    "shows_strikes": lambda value: shows_strikes(TREE, value),
    "fewest strikes": lambda value: shows_strikes(TREE, ("fewest", value, value)),
    "rows of strikes": lambda value: shows_strikes(TREE, ("fewest", (("put", 1), ("put", 2), ("put", 3)), value)),
    "shows": lambda value: EVIDENCE.shows(value),
    "shows an order": lambda value: EVIDENCE.shows(("order", value)),
    "shows a table": lambda value: EVIDENCE.shows(("grown", value)),
    "shows a fault": lambda value: EVIDENCE.shows(("ungrown", value)),
    "equal evidences": lambda value: EVIDENCE == value,
    "in missing": lambda value: value in MISSING,
    "shows_missing": lambda value: shows_missing(MISSING, value),
    "gaps": lambda value: shows_missing(MISSING, (value, ())),
    "rows of missing strikes": lambda value: shows_missing(MISSING, ((), value)),
    "equal missing": lambda value: MISSING == value,
    "equal desks": lambda value: DESK == value,
}

REFUSING = {
    "Rule": (lambda value: Rule(value, 1, 2, 2), InvalidRule),
    "Rule.read": (lambda value: Rule.read(value), InvalidText),
    "Tree": (lambda value: Tree(RULE, value), InvalidTree),
    "read_levels": (lambda value: read_levels(RULE, value), InvalidText),
    "read_file": (lambda value: read_file(value), InvalidText),
    "leaf_for": (lambda value: leaf_for(TREE.levels, value), InvalidKey),
    "put": (lambda value: TREE + value, InvalidKey),
    "strike": (lambda value: TREE - value, InvalidKey),
    "grown": (lambda value: Tree.grown(RULE, value), InvalidKey),
    "item": (lambda value: TREE[value, 0], NoPage),
    "pages_below": (lambda value: pages_below(SHAPE[0], 0, value), NoPage),
    "before": (lambda value: list(before(TREE, value)), NoKey),
    "count_before": (lambda value: count_before(TREE, value), NoKey),
    "key of is_before": (lambda value: is_before(TREE, value, TREE.levels), NoKey),
    "value_of": (lambda value: value_of(empty_file(), value), NoKey),
    "entry_of": (lambda value: entry_of(RULE, empty_file(), value), InvalidDeed),
    "do": (lambda value: STORE.do(value), InvalidDeed),
    "put a key": (lambda value: STORE.put(value, ""), InvalidKey),
    "strike a key": (lambda value: STORE.strike(value), NoKey),
    "strike a range": (lambda value: STORE.strike_range(0, value), InvalidKey),
    "item of a store": (lambda value: STORE[value], NoKey),
    "wrote": (lambda value: MEDIA.wrote(value), WrongStep),
    "flushed": (lambda value: MEDIA.flushed(value), WrongStep),
    "damaged": (lambda value: MEDIA.damaged(value), NotWritten),
    "fall in a write": (lambda value: list(falls(MEDIA, ("write", value))), WrongStep),
    "fall in a flush": (lambda value: list(falls(MEDIA, ("flush", value))), WrongStep),
    "flush": (lambda value: LOGGED.flush(value), WrongStep),
    "fetch": (lambda value: BACKUP.fetch(value), NotWritten),
    "a job": (lambda value: Crew(STORE, [value]), InvalidJob),
    "job": (lambda value: CREW.job(value), NoHand),
    "turn": (lambda value: CREW.turn(value), NoHand),
    "run": (lambda value: list(CREW.run((value,))), NoHand),
    "tree_of": (lambda value: tree_of(RULE, value), NotSound),
    "leaf_pages": (lambda value: leaf_pages(RULE, value), NotSound),
    "Evidence": (lambda value: Evidence(RULE, value), NotSound),
    "a file of Missing": (lambda value: Missing(RULE, value, ()), NotSound),
    "a row of Missing": (lambda value: Missing(RULE, SECOND.file, (value,)), InvalidRow),
    "item of Missing": (lambda value: MISSING[value], NoKey),
    "played_keys": (lambda value: played_keys(RULE, (value,)), InvalidEvent),
    "say": (lambda value: DESK.say(value), UnknownCommand),
    "say_all": (lambda value: DESK.say_all("put 1 =", value), UnknownCommand),
}


class AnyValues(unittest.TestCase):
    def test_answers(self):
        for name, work in WHETHER.items():
            for value in VALUES:
                before = copy.deepcopy(value)
                self.assertIn(work(value), (True, False), name)
                self.assertIs(type(work(value)), bool, name)
                self.assertTrue(same(value, before), name)

    def test_errors(self):
        for name, (work, error) in REFUSING.items():
            for value in VALUES:
                # These are right for some of the functions.
                if type(value) is int or value == "1" or same(value, (((),),)):
                    continue
                before = copy.deepcopy(value)
                with self.assertRaises(error, msg=name):
                    work(value)
                self.assertTrue(same(value, before), name)
        self.assertEqual(TREE, Tree.grown(RULE, 1, 2, 3))
        self.assertEqual(STORE, GuardedStore(RULE))
        self.assertEqual(MEDIA, Media.blank())
        self.assertEqual((LOGGED.media, BACKUP.missing, CREW.rows), (Media.blank(), (0, 1, 2), ()))
        self.assertEqual((len(MISSING), DESK.say("size")), (1, "0 3 0"))

    def test_bounds_of_which_none_is_none(self):
        refusing = [
            (lambda value: list(records_in(empty_file(), low=value)), InvalidKey),
            (lambda value: list(STORE.scan(high=value)), InvalidKey),
            (lambda value: assign_most(STORE, value), InvalidMost),
            (lambda value: GuardedStore(RULE, most=value), InvalidMost),
            (lambda value: STORE.put(1, value), InvalidValue),
            (lambda value: Missing(RULE, SECOND.file, (), start=value), InvalidStart),
        ]
        for work, error in refusing:
            for value in VALUES:
                if value is None or type(value) is tuple and value == () or type(value) is int or type(value) is str and len(value) < 41 and "\n" not in value:
                    continue
                before_it = copy.deepcopy(value)
                with self.assertRaises(error):
                    work(value)
                self.assertTrue(same(value, before_it))

    def test_spots(self):
        for value in VALUES:
            self.assertTrue(same(spot_of(TREE.levels, value), {1: (0, 0), 2: (0, 1)}.get(value)
                                 if type(value) is int else None))


if __name__ == "__main__":
    unittest.main()
