"""[9], [10]: the last root turned, the norm, and one number over another."""

import copy
import unittest

from compasshall.errors import NoOver
from compasshall.overs import norm, over, turned
from compasshall.sums import against, halves, lifted, made, minus, plus, times
from handy import (ALL, GREAT, WITH_ROOTS, Looks, edges_over, fraction, last_root, numbers_over, product_of, value,
                   whole)


def given_over(roots):
    return edges_over(roots) + numbers_over(roots, 30, 4)


class Turned(Looks, unittest.TestCase):
    def test_ordinary_numbers(self):
        self.assertEqual(turned(((1, 2), 3)), ((1, -2), 3))
        self.assertEqual(turned(((1, 0), 3)), ((1, 0), 3))
        self.assertEqual(turned(((0, -1), 1)), ((0, 1), 1))
        self.assertEqual(turned(((1, 2, 3, 4), 5)), ((1, 2, -3, -4), 5))
        self.assertEqual(turned(((1, 2, 3, 4, 5, 6, 7, 8), 9)), ((1, 2, 3, 4, -5, -6, -7, -8), 9))

    def test_the_half_behind_gets_the_other_sign(self):
        for roots in WITH_ROOTS:
            for x in given_over(roots):
                self.assert_number(roots, turned(x))
                a, b = halves(x)
                self.assertEqual(halves(turned(x)), (a, against(b)))

    def test_turned_twice_is_the_number(self):
        for roots in WITH_ROOTS:
            for x in given_over(roots):
                self.assertEqual(turned(turned(x)), x)

    def test_turned_products_and_sums(self):
        for roots in WITH_ROOTS:
            for x in given_over(roots):
                for y in given_over(roots)[::2]:
                    self.assertEqual(times(roots, turned(x), turned(y)), turned(times(roots, x, y)))
                    self.assertEqual(plus(turned(x), turned(y)), turned(plus(x, y)))

    def test_only_numbers_with_nothing_behind_stay(self):
        for roots in WITH_ROOTS:
            for x in given_over(roots):
                self.assertEqual(turned(x) == x, not any(x[0][len(x[0]) // 2:]))


class Norm(Looks, unittest.TestCase):
    def test_ordinary_numbers(self):
        self.assertEqual(norm(((2,),), ((3, 1), 1)), ((7,), 1))
        self.assertEqual(norm(((2,),), ((1, 1), 1)), ((-1,), 1))
        self.assertEqual(norm(((2,),), ((0, 1), 2)), ((-1,), 2))
        self.assertEqual(norm(((2,),), ((2, 0), 3)), ((4,), 9))
        self.assertEqual(norm(((2,),), ((2, 1), 2)), ((1,), 2))
        self.assertEqual(norm(((2,), (0, 3)), ((0, 0, 1, 0), 1)), ((0, -3), 1))
        self.assertEqual(norm(((2,), (0, 3)), ((1, 1, 1, 0), 1)), ((3, -1), 1))

    def test_it_is_the_number_times_the_turned_one(self):
        for roots in WITH_ROOTS:
            for x in given_over(roots):
                told = norm(roots, x)
                self.assert_number(roots[:-1], told)
                self.assertEqual(lifted(told, len(roots)), product_of(roots, x, turned(x)))

    def test_it_is_told_by_the_halves(self):
        for roots in WITH_ROOTS:
            beneath, under = roots[:-1], (roots[-1], 1)
            for x in given_over(roots):
                a, b = halves(x)
                squared = times(beneath, times(beneath, b, b), under)
                self.assertEqual(norm(roots, x), minus(times(beneath, a, a), squared))

    def test_the_norm_of_a_product(self):
        for roots in WITH_ROOTS:
            for x in given_over(roots):
                for y in given_over(roots)[::2]:
                    product = times(roots[:-1], norm(roots, x), norm(roots, y))
                    self.assertEqual(norm(roots, times(roots, x, y)), product)

    def test_only_nought_has_the_norm_nought(self):
        for roots in WITH_ROOTS:
            for x in given_over(roots) + numbers_over(roots, 31, 40, 2, 1):
                self.assertEqual(norm(roots, x) == whole(roots[:-1], 0), x == whole(roots, 0))


class Over(Looks, unittest.TestCase):
    def test_ordinary_numbers(self):
        self.assertEqual(over((), ((1,), 2), ((3,), 4)), ((2,), 3))
        self.assertEqual(over((), ((1,), 2), ((-3,), 4)), ((-2,), 3))
        self.assertEqual(over(((2,),), ((1, 0), 1), ((1, 1), 1)), ((-1, 1), 1))
        self.assertEqual(over(((2,),), ((1, 0), 1), ((0, 1), 1)), ((0, 1), 2))
        self.assertEqual(over(((2,), (0, 3)), ((1, 0, 0, 0), 1), ((0, 0, 1, 0), 1)), ((0, 0, 0, 1), 6))

    def test_times_the_other_it_is_the_one(self):
        for roots in ALL:
            for x in given_over(roots):
                for y in given_over(roots)[1:]:
                    told = over(roots, x, y)
                    self.assert_number(roots, told)
                    self.assertEqual(product_of(roots, told, y), x)

    def test_it_stands_for_the_one_divided_by_the_other(self):
        for roots in ALL:
            for x, y in zip(numbers_over(roots, 32, 4), numbers_over(roots, 33, 4)):
                if any(y[0]):
                    far_off = value(roots, over(roots, x, y)) - value(roots, x) / value(roots, y)
                    self.assertLess(abs(far_off), 10 ** -9)

    def test_numbers_of_twenty_figures(self):
        for roots in ALL:
            x, y, z = numbers_over(roots, 34, 3, GREAT, GREAT)
            for one, other in [(x, y), (y, z), (z, x)]:
                self.assertEqual(times(roots, over(roots, one, other), other), one)

    def test_a_number_over_itself_is_one(self):
        for roots in ALL:
            for x in given_over(roots)[1:]:
                self.assertEqual(over(roots, x, x), whole(roots, 1))
                self.assertEqual(over(roots, against(x), x), whole(roots, -1))

    def test_nought_over_a_number_is_nought(self):
        for roots in ALL:
            for x in given_over(roots)[1:]:
                self.assertEqual(over(roots, whole(roots, 0), x), whole(roots, 0))

    def test_over_one_and_over_a_fraction(self):
        for roots in ALL:
            for x in given_over(roots):
                self.assertEqual(over(roots, x, whole(roots, 1)), x)
                thrice = made(tuple(-3 * top for top in x[0]), 2 * x[1])
                self.assertEqual(over(roots, x, fraction(roots, -2, 3)), thrice)

    def test_over_each_root(self):
        for roots in WITH_ROOTS:
            for many in range(1, len(roots) + 1):
                last = lifted(last_root(roots[:many]), len(roots))
                under = lifted((roots[many - 1], 1), len(roots))
                self.assertEqual(over(roots, under, last), last)

    def test_over_nought_it_is_refused(self):
        for roots in ALL:
            for x in given_over(roots):
                self.assert_refused(NoOver, over, roots, x, whole(roots, 0))

    def test_what_was_told_is_handed_in_whatever_its_size(self):
        for roots in ALL:
            x, y = numbers_over(roots, 35, 2, GREAT, GREAT)
            for _ in range(5):
                x = times(roots, x, x)
            self.assertEqual(over(roots, times(roots, x, y), y), x)
            self.assertEqual(over(roots, x, times(roots, x, y)), over(roots, whole(roots, 1), y))


class WhatIsHandedIn(unittest.TestCase):
    def test_it_stays(self):
        roots = ((2,), (0, 3))
        x, y = ((1, 2, 3, 4), 5), ((0, -1, 0, 2), 3)
        kept = copy.deepcopy((roots, x, y))
        for _ in range(2):
            turned(x), norm(roots, x), over(roots, x, y)
        self.assertEqual((roots, x, y), kept)


if __name__ == "__main__":
    unittest.main()
