import random
import unittest

from splitscar.rules import Rule
from splitscar.shapes import is_shape, shape_of
from splitscar.strikes import needs

from tests.helpers import RULES, same, sample_levels
from tests.strike_models import least_rooms, model_need, model_refusal, random_shape

HUGE = 2 * 10 ** 15 - 1


def model_needs(rule, shape, rooms):
    return tuple(
        tuple(model_need(rule, shape, rooms, level, page) for page in range(len(row)))
        for level, row in enumerate(shape[0])
    )


def shapes_of(rule):
    rng = random.Random(4)
    found = [shape_of(levels) for levels in sample_levels(rule)[::4]]
    for many in range(1, 14):
        for _ in range(5):
            shape = random_shape(rule, rng, many)
            if shape is not None:
                found.append(shape)
    return found


class Needs(unittest.TestCase):
    def test_page_by_page(self):
        met = {}
        for rule in RULES:
            rng = random.Random(6)
            for shape in shapes_of(rule):
                self.assertTrue(is_shape(rule, shape))
                least = least_rooms(shape)
                all_rooms = [
                    least, tuple(HUGE for _ in least), tuple(room + 1 for room in least),
                    tuple(room + rng.randrange(3) for room in least),
                    tuple(max(room, rule.leaf_long - 1) for room in least),
                    tuple(max(room, rule.leaf_short) for room in least),
                    tuple(rng.choice([room, room + rule.leaf_long, HUGE]) for room in least),
                ]
                for rooms in all_rooms:
                    found = needs(rule, shape, rooms)
                    self.assertTrue(same(found, model_needs(rule, shape, rooms)))
                    # The root has a need just if no base is too great and there is no bad fault.
                    self.assertEqual(found[0][0][0] is None, model_refusal(rule, shape, rooms) is not None)
                    kind = (found[0][0][0] is None, found[0][0][1] is None, rule.keeps_left)
                    met[kind] = met.get(kind, 0) + 1
        for keeps_left in (True, False):
            self.assertGreater(met[True, True, keeps_left], 200)
            self.assertGreater(met[False, True, keeps_left], 100)
            self.assertGreater(met[False, False, keeps_left], 100)

    def test_one_leaf(self):
        rule = Rule(3, 2, 3, 2)
        self.assertTrue(same(needs(rule, (((0,),), ()), (HUGE,)), (((0, 3),),)))
        self.assertEqual(needs(rule, (((1,),), ()), (HUGE,)), (((0, 2),),))
        self.assertEqual(needs(rule, (((4,),), ()), (4,)), (((0, 0),),))
        self.assertEqual(needs(rule, (((1,),), ()), (2,)), (((0, None),),))

    def test_leaves(self):
        rule = Rule(3, 2, 3, 2)
        sizes = ((3,), (2, 1, 4))
        self.assertEqual(needs(rule, (sizes, ()), (9, 9, 9)), (((2, 2),), ((1, 1), (1, 2), (0, 0))))
        self.assertEqual(needs(rule, (sizes, (2,)), (9, 9, 9))[1], ((1, 1), (1, 2), (1, 1)))
        self.assertEqual(needs(rule, (sizes, (1, 2)), (3, 2, 5))[1], ((1, 1), (1, None), (1, 1)))
        self.assertEqual(needs(rule, (sizes, ()), (2, 2, 5)), (((None, None),), ((None, None), (1, None), (0, 0))))
        self.assertEqual(needs(rule, (sizes, ()), (3, 1, 5)), (((None, None),), ((1, 1), (None, None), (0, 0))))

    def test_the_other_side(self):
        left, right = Rule(3, 2, 3, 2), Rule(2, 3, 2, 3)
        sizes = ((2,), (3, 3), (3, 1, 2, 2, 1, 4))
        mirrored = tuple(row[::-1] for row in sizes)
        rooms = (3, 9, 9, 3, 2, 9)
        found = needs(left, (sizes, ()), rooms)
        self.assertEqual(needs(right, (mirrored, ()), rooms[::-1]), tuple(row[::-1] for row in found))

    def test_an_asked_page(self):
        rule = Rule(2, 1, 2, 2)
        shape = (((2,), (2, 3), (2, 1, 1, 1, 2)), ())
        # The second page of the middle level has three pages below it, so one of its first two was long once.
        self.assertEqual(needs(rule, shape, (9, 9, 9, 9, 9))[1], ((0, 0), (1, 1)))
        self.assertEqual(needs(rule, shape, (9, 9, 1, 2, 2))[1], ((0, 0), (1, 1)))
        self.assertEqual(needs(rule, shape, (9, 9, 1, 1, 9))[1], ((0, 0), (None, None)))
        self.assertEqual(needs(rule, shape, (9, 9, 1, 1, 9))[0], ((None, None),))

    def test_few_and_edge(self):
        rule = Rule(2, 1, 4, 3)
        leaves = (2,) + (1,) * 6
        found = needs(rule, (((2,), (3, 4), leaves), ()), (9,) * 7)
        self.assertEqual(found[1][0], (None, None))
        found = needs(rule, (((2,), (5, 2), leaves), ()), (9,) * 7)
        self.assertEqual(found[1][1], (None, None))
        self.assertEqual(found[0], ((None, None),))

    def test_by_name(self):
        rule = Rule(3, 2, 3, 2)
        self.assertEqual(needs(rooms=(9,), shape=(((1,),), ()), rule=rule), (((0, 2),),))


if __name__ == "__main__":
    unittest.main()
