"""[32]: numbers carried from one scaffold to another."""

import copy
import itertools
import unittest

from compasshall.carrying import carried
from compasshall.errors import NoCarry
from compasshall.scaffolds import is_scaffold
from compasshall.sums import lifted
from handy import (ALL, GREAT, NONE, THREE_ROOTS, Looks, edges_over, last_root, numbers_over, product_of, sum_of,
                   value, whole)

# Scaffolds that tell the same numbers, in groups: roots in another order, times squares, products, nested otherwise.
GROUPS = [
    [()],
    [((2,),), ((8,),), ((18,),), ((200,),)],
    [((3,),), ((12,),), ((75,),)],
    [((2,), (3, 0)), ((3,), (2, 0)), ((2,), (6, 0)), ((6,), (2, 0)), ((6,), (3, 0)), ((3,), (8, 0)), ((12,), (18, 0)),
     ((6,), (5, 2)), ((6,), (5, -2)), ((2,), (9, 6)), ((3,), (14, 8)), ((24,), (50, 0))],
    [((2,), (2, 1)), ((2,), (2, -1)), ((2,), (4, 2)), ((8,), (4, 1)), ((2,), (10, 7)), ((2,), (18, 9))],
    [((2,), (0, 3)), ((2,), (0, 6)), ((8,), (0, 6)), ((2,), (0, 27)), ((2,), (12, 9))],
    [((5,), (10, -2)), ((5,), (10, 2)), ((20,), (10, 1)), ((20,), (160, 16)), ((5,), (40, 8)), ((5,), (5, 2))],
    [((2,), (3, 0), (5, 0, 0, 0)), ((5,), (3, 0), (2, 0, 0, 0)), ((3,), (5, 0), (2, 0, 0, 0)),
     ((6,), (10, 0), (2, 0, 0, 0)), ((30,), (6, 0), (2, 0, 0, 0)), ((2,), (3, 0), (30, 0, 0, 0)),
     ((6,), (5, 2), (5, 0, 0, 0)), ((2,), (15, 0), (8, 0, 2, 0))],
    [((2,), (2, 1), (2, 0, 1, 0)), ((2,), (2, 1), (2, 0, -1, 0)), ((8,), (8, 2), (8, 0, 2, 0)),
     ((2,), (4, 2), (8, 4, -2, -2))],
    [((2,), (2, 1), (3, 0, 0, 0)), ((3,), (2, 0), (2, 0, 1, 0)), ((2,), (3, 0), (2, 1, 0, 0)),
     ((6,), (5, 2), (2, 0, -2, 1))],
]


def same_group():
    return [pair for group in GROUPS for pair in itertools.product(group, repeat=2)]


class Carried(Looks, unittest.TestCase):
    def test_the_groups_hold_scaffolds(self):
        for group in GROUPS:
            for roots in group:
                self.assertTrue(is_scaffold(roots), roots)
        self.assertEqual({len(group[0]) for group in GROUPS}, {0, 1, 2, 3})

    def assert_same_value(self, old, new, x, told):
        self.assert_number(new, told)
        one, other = value(old, x), value(new, told)
        self.assertLess(abs(one - other), (abs(one) + 1).scaleb(-1300))

    def test_ordinary_numbers(self):
        self.assertEqual(carried(((2,),), ((8,),), ((1, 3), 5)), ((2, 3), 10))
        self.assertEqual(carried(((8,),), ((2,),), ((1, 3), 5)), ((1, 6), 5))
        self.assertEqual(carried(((2,), (3, 0)), ((3,), (2, 0)), ((1, 2, 3, 4), 5)), ((1, 3, 2, 4), 5))
        self.assertEqual(carried(((6,), (5, 2)), ((2,), (3, 0)), ((0, 0, 1, 0), 1)), ((0, 1, 1, 0), 1))
        self.assertEqual(carried(((6,), (5, 2)), ((2,), (3, 0)), ((0, 1, 0, 0), 1)), ((0, 0, 0, 1), 1))
        self.assertEqual(carried(((6,), (2, 0)), ((2,), (3, 0)), ((0, 0, 0, 1), 1)), ((0, 0, 2, 0), 1))
        self.assertEqual(carried(((2,), (2, -1)), ((2,), (2, 1)), ((0, 0, 1, 0), 1)), ((0, 0, -1, 1), 1))
        self.assertEqual(carried((), ((2,), (3, 0)), ((-7,), 9)), ((-7, 0, 0, 0), 9))
        self.assertEqual(carried(((3,),), ((2,), (3, 0)), ((1, 1), 2)), ((1, 0, 1, 0), 2))

    def test_to_the_same_scaffold(self):
        for roots in ALL:
            for x in edges_over(roots) + numbers_over(roots, 300, 5):
                self.assertEqual(carried(roots, roots, x), x)

    def test_to_scaffolds_of_the_same_numbers(self):
        for old, new in same_group():
            for x in numbers_over(old, 301, 3):
                self.assert_same_value(old, new, x, carried(old, new, x))

    def test_there_and_back(self):
        for old, new in same_group():
            for x in edges_over(old) + numbers_over(old, 302, 4) + numbers_over(old, 303, 1, GREAT, GREAT):
                self.assertEqual(carried(new, old, carried(old, new, x)), x)

    def test_by_way_of_a_third(self):
        for group in GROUPS:
            for old, new, third in itertools.product(group[-4:], repeat=3):
                x = numbers_over(old, 304, 1)[0]
                self.assertEqual(carried(new, third, carried(old, new, x)), carried(old, third, x))

    def test_sums_and_products_are_carried(self):
        for old, new in same_group():
            x, y = numbers_over(old, 305, 2)
            there, again = carried(old, new, x), carried(old, new, y)
            self.assertEqual(carried(old, new, sum_of(x, y)), sum_of(there, again))
            self.assertEqual(carried(old, new, product_of(old, x, y)), product_of(new, there, again))

    def test_to_scaffolds_with_more_roots(self):
        for old, new in [((), roots) for roots in ALL] + [
            (((2,),), ((2,), (3, 0))), (((3,),), ((2,), (3, 0))), (((6,),), ((2,), (3, 0))), (((24,),), ((3,), (2, 0))),
            (((2,),), ((2,), (2, 1), (2, 0, 1, 0))), (((15,),), ((2,), (3, 0), (5, 0, 0, 0))),
            (((30,),), ((2,), (3, 0), (5, 0, 0, 0))), (((10,), (6, 0)), ((2,), (3, 0), (5, 0, 0, 0))),
            (((10,), (7, 2)), ((2,), (3, 0), (5, 0, 0, 0))), (((2,), (2, 1)), ((2,), (2, 1), (2, 0, 1, 0))),
            (((3,),), ((6,), (5, 2))), (((2,), (2, -1)), ((2,), (3, 0), (2, 1, 0, 0))),
        ]:
            for x in edges_over(old) + numbers_over(old, 306, 4):
                self.assert_same_value(old, new, x, carried(old, new, x))

    def test_fewer_roots_of_one_scaffold_are_lifted(self):
        for roots in ALL:
            for many in range(len(roots) + 1):
                for x in numbers_over(roots[:many], 307, 3):
                    self.assertEqual(carried(roots[:many], roots, x), lifted(x, len(roots)))

    def test_each_root_is_carried_to_a_number_above_nought(self):
        for old, new in same_group():
            for many in range(1, len(old) + 1):
                told = carried(old, new, lifted(last_root(old[:many]), len(old)))
                self.assertGreater(value(new, told), 0)

    def test_what_is_handed_in_stays(self):
        old, new, x = ((2,), (3, 0)), ((6,), (5, 2)), ((1, 2, 3, 4), 5)
        kept = copy.deepcopy((old, new, x))
        self.assertEqual(carried(old, new, x), carried(old, new, x))
        self.assertEqual((old, new, x), kept)

    def test_great_roots(self):
        n = 10 ** 59 + 7
        for factor in (3, 10 ** 29 + 1):
            old, new = ((n,), (0, 2)), ((n * factor * factor,), (0, 2 * factor))
            x = ((1, 2, 3, 4), 5)
            there = carried(old, new, x)
            self.assert_same_value(old, new, x, there)
            self.assertEqual(carried(new, old, there), x)


class Refused(Looks, unittest.TestCase):
    def assert_no_carry(self, at, old, new):
        """Refused with the first root that is not there, whatever the number."""
        self.assertTrue(is_scaffold(old) and is_scaffold(new), (old, new))
        for x in [whole(old, 0), whole(old, 1), whole(old, -7)] + edges_over(old) + numbers_over(old, 308, 3):
            refusal = self.assert_refused(NoCarry, carried, old, new, x)
            self.assertEqual(refusal.at, at)
            self.assertIs(type(refusal.at), int)

    def test_to_no_roots(self):
        for roots in ALL:
            if roots != NONE:
                self.assert_no_carry(0, roots, ())

    def test_the_first_root_is_not_there(self):
        for old, new in [(((2,),), ((3,),)), (((3,),), ((2,), (2, 1))), (((5,),), ((2,), (3, 0))),
                         (((7,),), ((2,), (3, 0), (5, 0, 0, 0))), (((3,), (2, 0)), ((2,),)),
                         (((3,), (2, 0)), ((2,), (5, 0))), (((2,), (3, 0)), ((6,),)),
                         (((6,), (5, 2)), ((2,), (2, 1))), (((7,), (2, 0), (3, 0, 0, 0)), ((2,), (3, 0)))]:
            self.assert_no_carry(0, old, new)

    def test_the_second_root_is_not_there(self):
        for old, new in [(((2,), (3, 0)), ((2,),)), (((2,), (3, 0)), ((8,),)), (((2,), (2, 1)), ((2,), (3, 0))),
                         (((2,), (3, 0)), ((2,), (2, 1))), (((2,), (0, 1)), ((2,), (2, 1))),
                         (((2,), (3, 0), (5, 0, 0, 0)), ((2,), (5, 0))), (((6,), (5, 2)), ((6,), (7, 0))),
                         (((6,), (7, 0), (5, 2, 0, 0)), ((2,), (3, 0))),
                         (((2,), (2, 1), (2, 0, 1, 0)), ((2,), (3, 0), (5, 0, 0, 0)))]:
            self.assert_no_carry(1, old, new)

    def test_the_third_root_is_not_there(self):
        for roots in THREE_ROOTS:
            self.assert_no_carry(2, roots, roots[:2])
        for old, new in [(((2,), (3, 0), (5, 0, 0, 0)), ((6,), (5, 2))),
                         (((2,), (3, 0), (5, 0, 0, 0)), ((2,), (3, 0), (7, 0, 0, 0))),
                         (((2,), (2, 1), (2, 0, 1, 0)), ((2,), (2, 1), (3, 0, 0, 0)))]:
            self.assert_no_carry(2, old, new)

    def test_between_groups(self):
        """Scaffolds with as many roots that tell unlike numbers: at least one way is refused."""
        for one, other in itertools.permutations([group[0] for group in GROUPS], 2):
            if len(one) >= len(other):
                with self.assertRaises(NoCarry):
                    carried(one, other, whole(one, 0))

    def test_roots_below_nought_elsewhere_are_no_matter(self):
        # Over the root of 2 the number 2 - (the root of 2) has a root; turned, what was a square is still one.
        self.assertEqual(carried(((2,), (10, -7)), ((2,), (10, -7)), ((0, 0, 1, 0), 1)), ((0, 0, 1, 0), 1))
        self.assert_no_carry(1, ((2,), (10, -7)), ((2,), (3, 0)))


if __name__ == "__main__":
    unittest.main()
