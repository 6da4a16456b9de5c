import itertools
import unittest

from splitscar.errors import NotGrown
from splitscar.faults import faults
from splitscar.leads import leads, shows_grown
from splitscar.rules import Rule
from splitscar.shapes import shape_of

from tests.helpers import ODD_VALUES, RULES, random_levels, same, sample_levels
from tests.shape_models import all_sizes, model_faults, model_is_table

LEFT = Rule(2, 1, 3, 2)
DEEP = (((2,), (3, 4), (3, 2, 2, 3, 2, 2, 2), (2, 1, 1, 1, 1, 1, 1, 1, 2, 1, 1, 1, 1, 1, 1, 1)), ())


def changes(table):
    """Values that are almost this table."""
    rows = list(table)
    yield [list(row) for row in rows]
    yield rows
    yield tuple(list(row) for row in rows)
    for at, (level, page, lower) in enumerate(rows):
        yield tuple(rows[:at] + rows[at + 1:])
        yield tuple(rows[:at] + [rows[at]] + rows[at:])
        yield tuple(rows[:at] + [rows[at]] + rows[at + 1:] + [rows[at]])
        for other in range(lower - 3, lower + 4):
            yield tuple(rows[:at] + [(level, page, other)] + rows[at + 1:])
            yield tuple(sorted(rows + [(level, page, other)]))
        yield tuple(rows[:at] + [(level, page)] + rows[at + 1:])
        yield tuple(rows[:at] + [(level, page, lower, 0)] + rows[at + 1:])
        yield tuple(rows[:at] + [(level, page, None)] + rows[at + 1:])
        yield tuple(rows[:at] + [(level, page, [lower])] + rows[at + 1:])
        yield tuple(rows[:at] + [[level, page, lower]] + rows[at + 1:])
        yield tuple(rows[:at] + [(level, page, str(lower))] + rows[at + 1:])
        for place in range(3):
            row = list(rows[at])
            if row[place] in (0, 1):
                row[place] = bool(row[place])
                yield tuple(rows[:at] + [tuple(row)] + rows[at + 1:])
            row[place] = -1
            yield tuple(rows[:at] + [tuple(row)] + rows[at + 1:])
            for number in (2, 3, 4, 5, 6, 99):
                row[place] = number
                yield tuple(rows[:at] + [tuple(row)] + rows[at + 1:])
    if len(rows) > 1:
        yield tuple(rows[::-1])
        yield tuple(rows[1:] + rows[:1])


class Leads(unittest.TestCase):
    def test_one(self):
        self.assertTrue(same(leads(LEFT, DEEP), ((1, 1, 3), (2, 3, 8))))
        self.assertTrue(same(leads(rule=LEFT, shape=DEEP), ((1, 1, 3), (2, 3, 8))))

    def test_none_are_asked(self):
        self.assertTrue(same(leads(LEFT, (((0,),), ())), ()))
        self.assertTrue(same(leads(LEFT, (((2,), (2, 1)), ())), ()))
        self.assertTrue(same(leads(LEFT, (((2,), (3, 2), (2, 1, 1, 1, 1)), ())), ()))

    def test_tables_of_grown_shapes(self):
        longest = 0
        for rule in RULES:
            for seed in range(30):
                shape = shape_of(random_levels(rule, seed, 10 + seed * 4))
                table = leads(rule, shape)
                self.assertTrue(model_is_table(rule, shape, table))
                self.assertIs(shows_grown(rule, shape, table), True)
                self.assertTrue(same(leads(rule, shape), table))
                longest = max(longest, len(table))
        self.assertGreater(longest, 10)

    def test_not_grown(self):
        seen = set()
        for rule in RULES:
            for levels in sample_levels(rule):
                shape = shape_of(levels)
                found = model_faults(rule, shape)
                if not found:
                    continue
                seen.add(found[0][2])
                with self.assertRaises(NotGrown) as caught:
                    leads(rule, shape)
                self.assertTrue(same(caught.exception.fault, found[0]))
        self.assertEqual(seen, {"few", "edge", "lead", "ghost"})


class ShowsGrown(unittest.TestCase):
    def test_changed_tables(self):
        refused = 0
        accepted = 0
        for rule in RULES:
            for seed in range(6):
                shape = shape_of(random_levels(rule, seed + 50, 40 + seed * 5))
                for value in changes(leads(rule, shape)):
                    answer = model_is_table(rule, shape, value)
                    self.assertIs(shows_grown(rule, shape, value), answer, (rule, shape, value))
                    refused += not answer
                    accepted += answer
        self.assertGreater(refused, 1000)
        self.assertGreater(accepted, 100)

    def test_some_changes(self):
        self.assertIs(shows_grown(LEFT, DEEP, ((1, 1, 3), (2, 3, 8))), True)
        for value in [
            (), ((1, 1, 3),), ((2, 3, 8),), ((2, 3, 8), (1, 1, 3)), ((1, 1, 4), (2, 3, 8)), ((1, 1, 4),),
            ((1, 1, 3), (2, 3, 7)), ((1, 1, 3), (2, 3, 9)), ((1, 1, 3), (2, 3, 8), (2, 3, 8)), [(1, 1, 3), (2, 3, 8)],
            ((1, 1, 3), [2, 3, 8]), ((True, 1, 3), (2, 3, 8)), ((1, True, 3), (2, 3, 8)), ((0, 0, 0), (1, 1, 3), (2, 3, 8)),
            ((0, 0, 0), (1, 0, 0), (1, 1, 3), (2, 0, 0), (2, 3, 8)), ((1, 1, 3), (2, 3, 8), (3, 8, 0)), None, 5, "ab",
            ((1, 1, 3), (2, 3, 8), (4, 0, 0)), ((1, 1, 3), (2, 3, 8), (5, 0, 0)), ((1, 1, 3), (2, 3, 8), (2, 7, 16)),
        ]:
            self.assertIs(shows_grown(LEFT, DEEP, value), False, value)
        self.assertIs(shows_grown(rule=LEFT, shape=DEEP, value=((1, 1, 3), (2, 3, 8))), True)

    def test_other_values(self):
        plain = (((2,), (2, 1)), ())
        for value in ODD_VALUES:
            self.assertIs(shows_grown(LEFT, DEEP, value), False)
            self.assertIs(shows_grown(LEFT, plain, value), same(value, ()))
            self.assertIs(shows_grown(LEFT, DEEP, (value,)), False)
            self.assertIs(shows_grown(LEFT, DEEP, ((1, 1, value), (2, 3, 8))), False)
            self.assertIs(shows_grown(LEFT, DEEP, ((value, 1, 3), (2, 3, 8))), same(value, 1))

    def test_a_shape_with_another_fault(self):
        leaves = DEEP[0][-1]
        for sizes, ghosts, word in [
            (DEEP[0], (5,), "ghost"),
            (DEEP[0][:-1] + ((1,) + leaves[1:],), (), "edge"),
            (DEEP[0][:-1] + (leaves[:-1] + (0,),), (15,), "few"),
            (((2,), (2, 4), (3, 2, 3, 2, 2, 2), (2, 1, 1, 1, 1, 1, 2, 1, 1, 1, 1, 1, 1, 1)), (), "edge"),
        ]:
            self.assertIn(word, [found[2] for found in faults(LEFT, (sizes, ghosts))])
            self.assertNotIn("lead", [found[2] for found in faults(LEFT, (sizes, ghosts))])
            tables = [(), ((1, 1, 3), (2, 3, 8)), ((1, 1, 2), (2, 2, 6))]
            for table in tables:
                self.assertIs(shows_grown(LEFT, (sizes, ghosts), table), False)

    def test_few_on_the_kept_edge(self):
        rule = Rule(3, 2, 2, 2)
        self.assertIs(shows_grown(rule, (((2,), (3, 2)), ()), ()), True)
        for leaves in [(1, 2), (2, 2), (3, 1)]:
            self.assertIs(shows_grown(rule, (((2,), leaves), ()), ()), False)

    def test_a_shape_has_a_table_if_and_only_if_it_has_no_lead(self):
        with_lead = 0
        for rule in [Rule(2, 1, 2, 2), Rule(1, 2, 2, 2), Rule(2, 1, 3, 2), Rule(1, 2, 2, 3)]:
            for sizes in all_sizes(rule, 9):
                words = {found[2] for found in model_faults(rule, (sizes, ()))}
                rows = [
                    (level, page, lower)
                    for level in range(len(sizes) - 1)
                    for page in range(len(sizes[level]))
                    for lower in range(len(sizes[level + 1]))
                    if model_is_row(rule, sizes, level, page, lower)
                ]
                if words & {"few", "edge"} or len(rows) > 9:
                    continue
                tables = [
                    table
                    for many in range(len(rows) + 1)
                    for table in itertools.combinations(rows, many)
                    if shows_grown(rule, (sizes, ()), table)
                ]
                self.assertIs(bool(tables), "lead" not in words)
                with_lead += "lead" in words
        self.assertGreater(with_lead, 5)


def model_is_row(rule, sizes, level, page, lower):
    """Whether the lower page is below the page."""
    start = sum(sizes[level][:page])
    return start <= lower < start + sizes[level][page]


if __name__ == "__main__":
    unittest.main()
