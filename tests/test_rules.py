import itertools
import unittest

from splitscar.errors import InvalidRule, InvalidText, NotOverfull
from splitscar.rules import Rule

from tests.helpers import ODD_VALUES, RULES, numbers_of, same


def are_numbers(a, b, c, d):
    """Whether integers are the numbers of a rule, by the words of [3]."""
    if a < 1 or b < 1 or c < 2 or d < 2 or a + b - 1 > 16 or c + d - 1 > 16:
        return False
    return (a >= b and c >= d) or (a <= b and c <= d)


class MakingRules(unittest.TestCase):
    def test_all_numbers_around_the_bounds(self):
        some = [-1, 0, 1, 2, 3, 8, 9, 14, 15, 16, 17, 18]
        for numbers in itertools.product(some, repeat=4):
            if are_numbers(*numbers):
                self.assertEqual(numbers_of(Rule(*numbers)), numbers)
            else:
                with self.assertRaises(InvalidRule):
                    Rule(*numbers)

    def test_the_very_bounds(self):
        for numbers in [(1, 1, 2, 2), (16, 1, 15, 2), (1, 16, 2, 15), (9, 8, 9, 8), (8, 9, 8, 9), (2, 2, 2, 3)]:
            self.assertEqual(numbers_of(Rule(*numbers)), numbers)
        wrong = [
            (0, 1, 2, 2), (1, 0, 2, 2), (2, 1, 1, 2), (2, 1, 2, 1), (17, 1, 2, 2), (9, 9, 2, 2), (1, 17, 2, 2),
            (2, 1, 16, 2), (2, 1, 15, 3), (1, 2, 2, 16), (2, 1, 2, 3), (1, 2, 3, 2), (-2, 1, 2, 2), (10 ** 59, 1, 2, 2),
        ]
        for numbers in wrong:
            with self.assertRaises(InvalidRule):
                Rule(*numbers)

    def test_other_values(self):
        for at in range(4):
            for value in ODD_VALUES:
                if type(value) is int:
                    continue
                numbers = [2, 2, 2, 2]
                numbers[at] = value
                with self.assertRaises(InvalidRule):
                    Rule(*numbers)
        with self.assertRaises(InvalidRule):
            Rule(True, True, 2, 2)

    def test_by_name(self):
        rule = Rule(page_right=2, page_left=4, leaf_right=1, leaf_left=3)
        self.assertEqual(numbers_of(rule), (3, 1, 4, 2))
        self.assertEqual(Rule.read(text="3 1 4 2"), rule)
        self.assertEqual(rule(keys=(1, 2, 3, 4)), ((1, 2, 3), (4,)))
        self.assertEqual(rule.parts(separators=(1, 2, 3, 4, 5)), ((1, 2, 3), 4, (5,)))

    def test_most(self):
        self.assertTrue(same(Rule.MOST, 16))


class Properties(unittest.TestCase):
    def test_one_rule(self):
        rule = Rule(3, 1, 4, 2)
        self.assertEqual((rule.leaf_most, rule.page_most), (3, 5))
        self.assertEqual((rule.leaf_long, rule.leaf_short, rule.page_long, rule.page_short), (3, 1, 4, 2))
        self.assertIs(rule.keeps_left, True)

    def test_all_rules(self):
        for a, b, c, d in itertools.product(range(1, 17), range(1, 17), range(2, 16), range(2, 16)):
            if not are_numbers(a, b, c, d):
                continue
            rule = Rule(a, b, c, d)
            self.assertEqual((rule.leaf_most, rule.page_most), (a + b - 1, c + d - 1))
            self.assertEqual([rule.leaf_short, rule.leaf_long], sorted([a, b]))
            self.assertEqual([rule.page_short, rule.page_long], sorted([c, d]))
            self.assertIs(rule.keeps_left, a >= b and c >= d)

    def test_sides(self):
        self.assertIs(Rule(2, 2, 3, 3).keeps_left, True)
        self.assertIs(Rule(2, 2, 3, 2).keeps_left, True)
        self.assertIs(Rule(2, 2, 2, 3).keeps_left, False)
        self.assertIs(Rule(1, 2, 2, 2).keeps_left, False)
        self.assertIs(Rule(2, 1, 2, 2).keeps_left, True)

    def test_never_change(self):
        names = (
            "leaf_left leaf_right page_left page_right leaf_most page_most leaf_long leaf_short page_long page_short "
            "keeps_left"
        )
        rule = Rule(3, 1, 4, 2)
        for name in names.split():
            with self.assertRaises(AttributeError):
                setattr(rule, name, 2)
        self.assertEqual(rule, Rule(3, 1, 4, 2))


class Splitting(unittest.TestCase):
    def test_leaves(self):
        for rule in RULES:
            for many in range(20):
                keys = tuple(range(5, 5 + many))
                if many == rule.leaf_left + rule.leaf_right:
                    left, right = rule(keys)
                    self.assertTrue(same(left + right, keys))
                    self.assertEqual((len(left), len(right)), (rule.leaf_left, rule.leaf_right))
                    continue
                with self.assertRaises(NotOverfull) as caught:
                    rule(keys)
                self.assertTrue(same(caught.exception.many, many))

    def test_pages(self):
        for rule in RULES:
            for many in range(20):
                separators = tuple(range(5, 5 + many))
                if many + 1 == rule.page_left + rule.page_right:
                    left, up, right = rule.parts(separators)
                    self.assertTrue(same(left + (up,) + right, separators))
                    self.assertEqual((len(left) + 1, len(right) + 1), (rule.page_left, rule.page_right))
                    continue
                with self.assertRaises(NotOverfull) as caught:
                    rule.parts(separators)
                self.assertTrue(same(caught.exception.many, many))

    def test_kinds(self):
        rule = Rule(2, 1, 2, 2)
        self.assertTrue(same(rule((1, 2, 3)), ((1, 2), (3,))))
        self.assertTrue(same(rule.parts((1, 2, 3)), ((1,), 2, (3,))))


class MirrorsAndEquality(unittest.TestCase):
    def test_mirror(self):
        for rule in RULES:
            mirror = rule.mirrored()
            self.assertEqual(
                numbers_of(mirror), (rule.leaf_right, rule.leaf_left, rule.page_right, rule.page_left)
            )
            self.assertEqual(mirror.mirrored(), rule)

    def test_equality(self):
        for first, second in itertools.product(RULES, RULES):
            self.assertIs(first == second, numbers_of(first) == numbers_of(second))
            self.assertIs(first != second, numbers_of(first) != numbers_of(second))
            self.assertTrue(first == Rule(*numbers_of(first)))
        for value in ODD_VALUES + [(2, 1, 2, 2), "2 1 2 2"]:
            self.assertFalse(Rule(2, 1, 2, 2) == value)
            self.assertTrue(Rule(2, 1, 2, 2) != value)


class RuleTexts(unittest.TestCase):
    def test_shown(self):
        self.assertEqual(str(Rule(3, 1, 2, 2)), "3 1 2 2")
        self.assertEqual(repr(Rule(3, 1, 2, 2)), "Rule(3, 1, 2, 2)")
        self.assertEqual(repr(Rule(1, 16, 2, 15)), "Rule(1, 16, 2, 15)")

    def test_read_back(self):
        for rule in RULES:
            self.assertEqual(Rule.read(str(rule)), rule)

    def test_refused_texts(self):
        many = "9" * 16
        very_many = "9" * 5000
        cases = [
            ("", 0, 0), (" ", 0, 0), ("\n", 0, 0), ("3", 0, 1), ("3 1 2", 0, 3), ("3 1 2 ", 0, 3), ("3 1 2 2 ", 0, 4),
            (" 3 1 2 2", 0, 0), ("3  1 2 2", 0, 1), ("3 1 2 2 2", 0, 4), ("3 1 2 2\n", 1, 0), ("3 1 2 2\n\n", 1, 0),
            ("3 1 2 2\n3 1 2 2", 1, 0), ("3 1 2\n", 0, 3), ("\n3 1 2 2", 0, 0), ("3 1 x 2\n", 0, 2), ("03 1 2 2", 0, 0),
            ("3 00 2 2", 0, 1), ("3 -1 2 2", 0, 1), ("3 1 -0 2", 0, 2), ("3 1 +2 2", 0, 2), ("3 1 2 " + many, 0, 3),
            (very_many + " 1 2 2", 0, 0), ("3 1 2 2.0", 0, 3), ("3 1 2 -", 0, 3), ("3,1,2,2", 0, 0), ("3 1 2 1_0", 0, 3),
            ("Rule(3, 1, 2, 2)", 0, 0),
        ]
        for text, line, word in cases:
            with self.assertRaises(InvalidText, msg=text[:40]) as caught:
                Rule.read(text)
            self.assertTrue(same((caught.exception.line, caught.exception.word), (line, word)), text[:40])

    def test_no_strings(self):
        for value in ODD_VALUES:
            if isinstance(value, str):
                continue
            with self.assertRaises(InvalidText) as caught:
                Rule.read(value)
            self.assertTrue(same((caught.exception.line, caught.exception.word), (0, 0)))

    def test_texts_of_no_rule(self):
        for text in ["0 1 2 2", "3 1 2 1", "1 2 3 2", "999999999999999 1 2 2", "9 9 2 2"]:
            with self.assertRaises(InvalidRule):
                Rule.read(text)

    def test_the_text_is_looked_at_first(self):
        with self.assertRaises(InvalidText):
            Rule.read("0 1 2 2\n")


if __name__ == "__main__":
    unittest.main()
