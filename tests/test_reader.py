import random
import re
import unittest

from splitscar.errors import InvalidText, InvalidTree
from splitscar.reader import read_file, read_levels
from splitscar.rules import Rule
from splitscar.texts import show_levels

from tests.helpers import ODD_VALUES, RULES, same, sample_levels
from tests.test_texts import IMAGES

SMALL = Rule(2, 1, 2, 2)

NUMBER = "(?:0|[1-9][0-9]{0,14})"
KEY = "(?:0|-?[1-9][0-9]{0,14})"
STRING = "=(?:[^~ \n]|~~|~_)*"
HELD = f"(?:{STRING}|@{NUMBER}:{NUMBER})"
LINK = f"(?:-|{NUMBER})"
PAGE = f"(?:-|{KEY}(?: {KEY})*)"

LEVEL_LINE = re.compile(f"{PAGE}(?: \\| {PAGE})*")
FILE_LINE = re.compile(
    f"head {NUMBER} {NUMBER}|space {NUMBER} {NUMBER}(?: {NUMBER})*|leaf {LINK}(?: {KEY} {HELD})*"
    f"|inner {NUMBER}(?: {KEY} {NUMBER})+|piece {LINK} {STRING}|free"
)

POOL = ["0", "=", "|"]


def can_go_on(form, words, more=3):
    """Whether a line of the form begins with these words: some words behind them complete it."""
    if form.fullmatch(" ".join(words)):
        return True
    return more > 0 and any(can_go_on(form, words + [word], more - 1) for word in POOL)


def first_wrong(form, text):
    """The line and the word of InvalidText, by the words of [25], or None."""
    for line, row in enumerate(text.split("\n")):
        if form.fullmatch(row):
            continue
        words = row.split(" ")
        for at in range(len(words)):
            if not can_go_on(form, words[:at + 1]):
                return line, at
        return line, len(words)
    return None


def spoilt(text, rng):
    """A text with one small change."""
    words = re.split("([ \n])", text)
    at = rng.randrange(len(words))
    some = ["", "x", "-", "-0", "00", "07", "+1", "-5", "9" * 15, "9" * 16, "-" + "9" * 15, "-" + "1" * 16, "5" * 5000,
            "|", "=", "=~", "=~x", "=a", "@1:2", "@1", "@-1:9", "@1:", "@01:9", "head", "free", "leaf", " ", "\n", "1.0"]
    word = rng.choice(["put", "drop", "swap", "end", "cut"])
    if word == "put":
        words[at] = rng.choice(some)
    elif word == "drop":
        del words[at]
    elif word == "swap":
        other = rng.randrange(len(words))
        words[at], words[other] = words[other], words[at]
    elif word == "end":
        words.append(rng.choice(["\n", " ", "\n\n", " |", " 1", " -", "\n1", " =a"]))
    else:
        words = words[:at]
    return "".join(words)


class ReadingCase(unittest.TestCase):
    def refused(self, work, text, line, word):
        with self.assertRaises(InvalidText, msg=repr(text)[:80]) as caught:
            work(text)
        found = (caught.exception.line, caught.exception.word)
        self.assertTrue(same(found, (line, word)), (repr(text)[:80], found, (line, word)))


def small_levels(text):
    return read_levels(SMALL, text)


class Levels(ReadingCase):
    def test_read(self):
        self.assertTrue(same(small_levels("-"), (((),),)))
        self.assertTrue(same(small_levels("0 1"), (((0, 1),),)))
        self.assertTrue(same(small_levels("5\n-3 | -"), (((5,),), ((-3,), ()))))
        self.assertTrue(same(read_levels(rule=SMALL, text="-"), (((),),)))

    def test_refused(self):
        many = "9" * 16
        cases = [
            ("", 0, 0), (" ", 0, 0), ("\n", 0, 0), ("-\n", 1, 0), ("1 2\n", 1, 0), ("1 2\n\n", 1, 0), ("\n1 2", 0, 0),
            ("1 ", 0, 1), (" 1", 0, 0), ("1  2", 0, 1), ("- ", 0, 1), ("- 1", 0, 1), ("- -", 0, 1), ("1 -", 0, 1),
            ("|", 0, 0), ("| 1", 0, 0), ("1 |", 0, 2), ("1 | ", 0, 2), ("1 | | 2", 0, 2), ("1 || 2", 0, 1),
            ("1 2 | x", 0, 3), ("5\n1 | 5 x", 1, 3), ("5\n1 |", 1, 2), ("5 x\n1 |", 0, 1), ("5\n1 | 5\n", 2, 0),
            ("01", 0, 0), ("1 -0", 0, 1), ("1 +2", 0, 1), ("--1", 0, 0), ("1 -01", 0, 1), ("00", 0, 0), (many, 0, 0),
            ("-" + many, 0, 0), ("1 " + "7" * 5000, 0, 1), ("-" + "7" * 5000, 0, 0), ("1\t2", 0, 0), ("1 2-", 0, 1),
            ("1,2", 0, 0), ("1 | -1 | 2 -", 0, 5), ("- |", 0, 2), ("- | -|", 0, 2), ("1_0", 0, 0), ("= ", 0, 0),
        ]
        for text, line, word in cases:
            self.refused(small_levels, text, line, word)

    def test_no_strings(self):
        for value in ODD_VALUES:
            if not isinstance(value, str):
                self.refused(small_levels, value, 0, 0)

    def test_no_levels(self):
        texts = ["1 2 3", "2 1", "- | -", "1 | 2", "5\n1", "5\n1 | 4", "5\n5 | 6", "-\n-", "5\n1 | 5 | 6", "1\n1\n1"]
        for text in texts:
            with self.assertRaises(InvalidTree):
                small_levels(text)

    def test_the_text_is_looked_at_first(self):
        self.refused(small_levels, "1 2 3\n", 1, 0)
        self.refused(small_levels, "2 1\n- | x", 1, 2)

    def test_greatest_keys(self):
        self.assertEqual(small_levels("-999999999999999 999999999999999"), (((-999999999999999, 999999999999999),),))

    def test_spoilt_texts(self):
        rng = random.Random(11)
        seen = 0
        for rule in RULES:
            for levels in sample_levels(rule)[:14]:
                text = spoilt(show_levels(levels), rng)
                wrong = first_wrong(LEVEL_LINE, text)
                if wrong is not None:
                    seen += 1
                    self.refused(lambda value: read_levels(rule, value), text, *wrong)
                    continue
                try:
                    self.assertEqual(show_levels(read_levels(rule, text)), text)
                except InvalidTree:
                    continue
        self.assertGreater(seen, 80)


class Files(ReadingCase):
    def test_by_name(self):
        self.assertEqual(read_file(text="free"), (("free",),))

    def test_a_file_need_not_be_sound(self):
        self.assertTrue(same(read_file("free\nfree"), (("free",), ("free",))))
        text = "leaf 0 5 =" + "a" * 90 + " 5 @0:0 -1 ="
        self.assertTrue(same(read_file(text), (("leaf", ((5, "a" * 90), (5, ("at", 0, 0)), (-1, "")), 0),)))
        self.assertTrue(same(read_file("space 0 0 5 5 1"), (("space", 0, (5, 5, 1), 0),)))
        self.assertTrue(same(read_file("inner 0 5 0 5 0"), (("inner", (5, 5), (0, 0, 0)),)))
        self.assertTrue(same(read_file("piece - =" + "~_" * 50), (("piece", " " * 50, None),)))

    def test_refused(self):
        many = "9" * 16
        cases = [
            ("", 0, 0), ("\n", 0, 0), ("free\n", 1, 0), ("free\n\nfree", 1, 0), ("free ", 0, 1), (" free", 0, 0),
            ("free free", 0, 1), ("Free", 0, 0), ("torn", 0, 0), ("head", 0, 1), ("head 2", 0, 2), ("head 2 0 0", 0, 3),
            ("head 2 ", 0, 2), ("head -2 0", 0, 1), ("head 02 0", 0, 1), ("head - 0", 0, 1), ("head 2 -0", 0, 2),
            ("space", 0, 1), ("space 3", 0, 2), ("space 3 0 -1", 0, 3), ("space 3 0 1 x", 0, 4), ("space 3 0 ", 0, 3),
            ("space 3 0 -", 0, 3), ("leaf", 0, 1), ("leaf x", 0, 1), ("leaf -1", 0, 1), ("leaf - 5", 0, 3),
            ("leaf - 5 a", 0, 3), ("leaf - =a", 0, 2), ("leaf - 5 =a 6", 0, 5), ("leaf - 5 =a =b", 0, 4),
            ("leaf - 5 =~", 0, 3), ("leaf - 5 =~a", 0, 3), ("leaf - 5 =~~~", 0, 3), ("leaf - 5 =~_~", 0, 3),
            ("leaf - 5 @1", 0, 3), ("leaf - 5 @1:", 0, 3), ("leaf - 5 @:9", 0, 3), ("leaf - 5 @1:-9", 0, 3),
            ("leaf - 5 @1:9:9", 0, 3), ("leaf - 5 @01:9", 0, 3), ("leaf - 5 @1:09", 0, 3), ("leaf - 5 @", 0, 3),
            ("leaf - 5 @1:" + many, 0, 3), ("leaf - " + many + " =", 0, 2), ("leaf - -0 =", 0, 2), ("leaf - +1 =", 0, 2),
            ("leaf  5 =", 0, 1), ("leaf - 5  =", 0, 3), ("inner", 0, 1), ("inner 2", 0, 2), ("inner 2 5", 0, 3),
            ("inner 2 5 3 6", 0, 5), ("inner - 5 3", 0, 1), ("inner 2 5 -", 0, 3), ("inner 2 5 -3", 0, 3),
            ("inner 2 -0 3", 0, 2), ("inner 2 5 3 x", 0, 4), ("piece", 0, 1), ("piece -", 0, 2), ("piece - a", 0, 2),
            ("piece - @1:9", 0, 2), ("piece -1 =a", 0, 1), ("piece - =a =b", 0, 3), ("piece 3 = ", 0, 3),
            ("free\nhead 2\nxx", 1, 2), ("head " + "1" * 5000 + " 0", 0, 1), ("leaf - " + "1" * 5000 + " =", 0, 2),
            ("leaf - -" + "1" * 5000 + " =", 0, 2), ("leaf - 5 @" + "1" * 5000 + ":9", 0, 3), ("head " + many + " 0", 0, 1),
            ("=a", 0, 0), ("-", 0, 0), ("free|", 0, 0), ("head  2 0", 0, 1),
        ]
        for text, line, word in cases:
            self.refused(read_file, text, line, word)

    def test_no_strings(self):
        for value in ODD_VALUES:
            if not isinstance(value, str):
                self.refused(read_file, value, 0, 0)

    def test_other_digits(self):
        self.refused(read_file, "head \u0663 0", 0, 1)
        self.refused(small_levels, "\u00b2", 0, 0)

    def test_fifteen_digits(self):
        nines = "9" * 15
        text = f"leaf {nines} -{nines} @{nines}:{nines}"
        number = int(nines)
        self.assertTrue(same(read_file(text), (("leaf", ((-number, ("at", number, number)),), number),)))

    def test_spoilt_texts(self):
        rng = random.Random(12)
        lines = [line for _, line in IMAGES]
        seen = 0
        for _ in range(700):
            text = spoilt("\n".join(rng.sample(lines, 3)), rng)
            wrong = first_wrong(FILE_LINE, text)
            if wrong is None:
                read_file(text)
                continue
            seen += 1
            self.refused(read_file, text, *wrong)
        self.assertGreater(seen, 300)


if __name__ == "__main__":
    unittest.main()
