import random
import unittest

from splitscar.errors import NoPage
from splitscar.levels import is_levels
from splitscar.rules import Rule
from splitscar.shapes import is_shape, mirrored_sizes, pages_below, shape_of

from tests.helpers import ODD_VALUES, RULES, numbers_of, same, sample_levels
from tests.shape_models import below_of, levels_with, model_sizes

SMALL = Rule(2, 1, 2, 2)
OTHER = Rule(1, 2, 2, 3)


def model_is_shape(rule, value):
    """Whether a value of tuples of integers is a shape: levels with it are levels."""
    if type(value) is not tuple or len(value) != 2:
        return False
    sizes, ghosts = value
    if type(sizes) is not tuple or type(ghosts) is not tuple or not sizes:
        return False
    if any(type(row) is not tuple for row in sizes):
        return False
    if any(type(n) is not int for row in sizes + (ghosts,) for n in row):
        return False
    if list(ghosts) != sorted(set(ghosts)) or any(n < 1 or n >= len(sizes[-1]) for n in ghosts):
        return False
    if len(sizes[0]) != 1 or any(n < 2 for row in sizes[:-1] for n in row) or any(n < 0 for n in sizes[-1]):
        return False
    if any(len(lower) != sum(upper) for upper, lower in zip(sizes, sizes[1:])):
        return False
    if any(n == 0 and at > 0 and at not in ghosts for at, n in enumerate(sizes[-1])):
        return False
    leaf_left, leaf_right, page_left, page_right = numbers_of(rule)
    return max(sizes[-1]) < leaf_left + leaf_right and all(n < page_left + page_right for row in sizes[:-1] for n in row)


def changed(shape, rng):
    """A shape with one small change."""
    sizes = [list(row) for row in shape[0]]
    ghosts = list(shape[1])
    level = rng.randrange(len(sizes))
    page = rng.randrange(len(sizes[level]))
    word = rng.choice(["more", "less", "none", "page", "lose", "ghost", "unghost", "swap", "full", "first", "level"])
    if word == "more":
        sizes[level][page] += 1
    elif word == "less":
        sizes[level][page] -= 1
    elif word == "none":
        sizes[-1][rng.randrange(len(sizes[-1]))] = 0
    elif word == "page":
        sizes[level].insert(page, rng.choice([0, 1, 2]))
    elif word == "lose":
        sizes[level].pop(page)
    elif word == "ghost":
        ghosts = sorted(ghosts + [rng.randrange(len(sizes[-1]) + 1)])
    elif word == "unghost" and ghosts:
        ghosts.pop(rng.randrange(len(ghosts)))
    elif word == "swap":
        ghosts.reverse()
    elif word == "full":
        sizes[level][page] = 16
    elif word == "first":
        ghosts.insert(0, 0)
    elif word == "level":
        sizes.insert(0, [1])
    return tuple(tuple(row) for row in sizes), tuple(ghosts)


class IsShape(unittest.TestCase):
    def test_shapes_of_levels(self):
        for rule in RULES:
            for levels in sample_levels(rule):
                shape = shape_of(levels)
                self.assertIs(is_shape(rule, shape), True)
                self.assertEqual(shape_of(levels_with(shape)), shape)

    def test_small_changes(self):
        rng = random.Random(3)
        answers = {True: 0, False: 0}
        for rule in RULES:
            for levels in sample_levels(rule):
                value = changed(shape_of(levels), rng)
                answer = model_is_shape(rule, value)
                answers[answer] += 1
                self.assertIs(is_shape(rule, value), answer, (rule, value))
                if answer:
                    self.assertTrue(is_levels(rule, levels_with(value)))
                    self.assertTrue(same(shape_of(levels_with(value)), value))
        self.assertGreater(min(answers.values()), 100)

    def test_one_leaf(self):
        for size, answer in [(-1, False), (0, True), (1, True), (2, True), (3, False), (10 ** 59, False)]:
            self.assertIs(is_shape(SMALL, (((size,),), ())), answer)
        self.assertIs(is_shape(SMALL, (((0,),), (0,))), False)
        self.assertIs(is_shape(SMALL, (((1,),), (1,))), False)

    def test_sizes_of_pages(self):
        self.assertIs(is_shape(SMALL, (((2,), (1, 1)), ())), True)
        self.assertIs(is_shape(SMALL, (((3,), (1, 1, 1)), ())), True)
        self.assertIs(is_shape(SMALL, (((4,), (1, 1, 1, 1)), ())), False)
        self.assertIs(is_shape(OTHER, (((4,), (1, 1, 1, 1)), ())), True)
        self.assertIs(is_shape(OTHER, (((5,), (1, 1, 1, 1, 1)), ())), False)
        self.assertIs(is_shape(SMALL, (((1,), (1,)), ())), False)
        self.assertIs(is_shape(SMALL, (((0,), ()), ())), False)
        self.assertIs(is_shape(SMALL, (((2,), (1, 3)), ())), False)
        self.assertIs(is_shape(SMALL, (((2,), (1,)), ())), False)
        self.assertIs(is_shape(SMALL, (((2,), (1, 1, 1)), ())), False)
        self.assertIs(is_shape(SMALL, (((2, 2), (1, 1, 1, 1)), ())), False)
        self.assertIs(is_shape(SMALL, (((),), ())), False)
        self.assertIs(is_shape(SMALL, ((), ())), False)
        self.assertIs(is_shape(SMALL, (((2,), (2, 2), (1, 1, 1, 1)), ())), True)
        self.assertIs(is_shape(SMALL, (((2,), (2, 1), (1, 1, 1)), ())), False)

    def test_ghosts(self):
        sizes = ((3,), (0, 0, 1))
        for ghosts, answer in [
            ((1,), True), ((1, 2), True), ((), False), ((2,), False), ((0, 1), False), ((1, 3), False), ((2, 1), False),
            ((1, 1), False), ([1], False), ((True,), False), (("1",), False), ((1, None), False), (None, False),
            (1, False), ((-1, 1), False), ({1: 1}, False), (((1,),), False),
        ]:
            self.assertIs(is_shape(SMALL, (sizes, ghosts)), answer, ghosts)

    def test_kinds(self):
        for value in [
            [((1,),), ()], (((1,),),), (((1,),), (), ()), ([(1,)], ()), (([1],), ()), (((True,),), ()), ((("1",),), ()),
            (((None,),), ()), (((1,),), None), (((2,), (1, True)), ()), ((2, (1, 1)), ()), ("ab", ()), ("ab", "cd"), "ab",
            (((2,), [1, 1]), ()), ({}, ()), (None, None), (((2,), (1, (1,))), ()),
        ]:
            self.assertIs(is_shape(SMALL, value), False, value)
        for value in ODD_VALUES:
            self.assertIs(is_shape(SMALL, value), False)
            self.assertIs(is_shape(SMALL, (value, ())), False)
            self.assertIs(is_shape(SMALL, (((1,),), value)), same(value, ()))

    def test_great_shapes(self):
        rows = [(2,)]
        while len(rows[-1]) < 1500:
            rows.append((2,) * sum(rows[-1]))
        leaves = (0,) * sum(rows[-1])
        shape = (tuple(rows) + (leaves,), tuple(range(1, len(leaves))))
        self.assertIs(is_shape(SMALL, shape), True)
        self.assertIs(is_shape(SMALL, (shape[0], shape[1][1:])), False)

    def test_by_name(self):
        self.assertIs(is_shape(rule=SMALL, value=(((1,),), ())), True)
        self.assertEqual(shape_of(levels=(((1, 2),),)), (((2,),), ()))
        self.assertEqual(mirrored_sizes(sizes=((2,), (1, 2))), ((2,), (2, 1)))
        self.assertEqual(pages_below(sizes=((2,), (1, 2)), level=0, page=0), (0, 2))


class ShapesOfLevels(unittest.TestCase):
    def test_some(self):
        self.assertTrue(same(shape_of((((),),)), (((0,),), ())))
        levels = (((50,),), ((30,), (70, 90)), ((1, 2), (31,), (50,), (), (90, 91)))
        self.assertTrue(same(shape_of(levels), (((2,), (2, 3), (2, 1, 1, 0, 2)), (1, 3))))

    def test_all(self):
        for rule in RULES:
            for levels in sample_levels(rule)[::3]:
                self.assertTrue(same(shape_of(levels)[0], model_sizes(levels)))


class Mirrors(unittest.TestCase):
    def test_some(self):
        self.assertTrue(same(mirrored_sizes(((3,),)), ((3,),)))
        sizes = ((2,), (2, 3), (2, 1, 1, 0, 2))
        self.assertTrue(same(mirrored_sizes(sizes), ((2,), (3, 2), (2, 0, 1, 1, 2))))

    def test_twice(self):
        for rule in RULES:
            for levels in sample_levels(rule)[::3]:
                sizes = shape_of(levels)[0]
                mirror = mirrored_sizes(sizes)
                self.assertTrue(same(mirrored_sizes(mirror), sizes))
                ghosts = tuple(at for at in range(1, len(mirror[-1])) if mirror[-1][at] == 0)
                self.assertIs(is_shape(rule.mirrored(), (mirror, ghosts)), True)


class PagesBelow(unittest.TestCase):
    def test_all_pages(self):
        for rule in RULES:
            for levels in sample_levels(rule)[::5]:
                sizes = shape_of(levels)[0]
                for level, row in enumerate(sizes[:-1]):
                    for page in range(len(row)):
                        start, end = pages_below(sizes, level, page)
                        self.assertEqual(list(range(start, end)), below_of(sizes, level, page))

    def test_no_page(self):
        sizes = ((2,), (2, 3), (2, 1, 1, 0, 2))
        self.assertTrue(same(pages_below(sizes, 1, 1), (2, 5)))
        wrong = [(2, 0), (3, 0), (-1, 0), (0, 1), (0, -1), (1, 2), (1, -1), (True, 0), (0, False), (1, True), (10 ** 59, 0)]
        for value in ODD_VALUES:
            if type(value) is not int:
                wrong += [(value, 0), (1, value), (value, value)]
        for level, page in wrong:
            with self.assertRaises(NoPage) as caught:
                pages_below(sizes, level, page)
            self.assertIs(caught.exception.level, level)
            self.assertIs(caught.exception.page, page)

    def test_one_leaf_has_none_below(self):
        with self.assertRaises(NoPage):
            pages_below(((2,),), 0, 0)


if __name__ == "__main__":
    unittest.main()
