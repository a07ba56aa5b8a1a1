"""[11], [12]: signs, numbers compared, sizes, and floors with places."""

import copy
import decimal
import unittest

from compasshall.overs import norm
from compasshall.signs import bounds, compare, floor_at, sign, size
from compasshall.sums import against, halves, lifted, made, minus, plus, times
from handy import (ALL, FIGURES, GREAT, ONE_ROOT, THREE_ROOTS, TWO_ROOTS, WITH_ROOTS, Looks, edges_over, fraction,
                   last_root, numbers_over, sign_of, value, whole)


def given_over(roots):
    return edges_over(roots) + numbers_over(roots, 50, 12) + numbers_over(roots, 51, 3, GREAT, GREAT)


def near_nought(roots, many):
    """Numbers so near to nought that only exact work tells their sign: powers of the last root less its floor."""
    last = last_root(roots)
    small = minus(last, whole(roots, int(value(roots, last))))
    told = [small]
    for _ in range(many):
        told.append(times(roots, told[-1], small))
    return told


class Sign(unittest.TestCase):
    def looked_at(self, roots, x, wanted):
        with self.subTest(roots=roots, x=x):
            told = sign(roots, x)
            self.assertEqual(told, wanted)
            self.assertIs(type(told), int)

    def test_fractions(self):
        for x, wanted in [(((0,), 1), 0), (((1,), 7), 1), (((-1,), 7), -1), (((GREAT,), 1), 1), (((-GREAT,), 3), -1)]:
            self.looked_at((), x, wanted)
            for roots in WITH_ROOTS:
                self.looked_at(roots, lifted(x, len(roots)), wanted)

    def test_both_halves_of_one_sign(self):
        for roots in [((2,),), ((3,),)]:
            self.looked_at(roots, ((1, 1), 1), 1)
            self.looked_at(roots, ((-1, -1), 5), -1)
            self.looked_at(roots, ((GREAT, 1), 3), 1)

    def test_one_half_nought(self):
        self.looked_at(((2,),), ((0, 3), 1), 1)
        self.looked_at(((2,),), ((0, -3), 1), -1)
        self.looked_at(((2,),), ((4, 0), 3), 1)
        self.looked_at(((2,),), ((-4, 0), 3), -1)
        self.looked_at(((2,), (0, 3)), ((1, -1, 0, 0), 1), -1)
        self.looked_at(((2,), (0, 3)), ((0, 0, -1, 1), 1), 1)
        self.looked_at(((2,), (0, 3)), ((0, 0, 3, -2), 1), 1)

    def test_unlike_signs_that_nearly_meet(self):
        roots = ((2,),)
        self.looked_at(roots, ((99, -70), 1), 1)
        self.looked_at(roots, ((-99, 70), 1), -1)
        self.looked_at(roots, ((41, -29), 1), -1)
        self.looked_at(roots, ((-41, 29), 1), 1)
        top, behind, wanted = 1, 1, -1
        for _ in range(170):
            self.looked_at(roots, ((top, -behind), 7), wanted)
            self.looked_at(roots, ((-top, behind), 7), -wanted)
            top, behind, wanted = top + 2 * behind, top + behind, -wanted

    def test_over_two_and_three_roots_where_the_halves_nearly_meet(self):
        for roots in WITH_ROOTS:
            for x in near_nought(roots, 12):
                self.assertTrue(0 < value(roots, x) < 1)
                self.looked_at(roots, x, 1)
                self.looked_at(roots, against(x), -1)

    def test_all_small_numbers_over_one_and_two_roots(self):
        for roots in [((2,),), ((2,), (0, 3)), ((7,), (-5, 2))]:
            for code in range(5 ** 2 ** len(roots)):
                tops = tuple(code // 5 ** i % 5 - 2 for i in range(2 ** len(roots)))
                self.assertEqual(sign(roots, (tops, 1)), small_sign(roots, tops), (roots, tops))

    def test_numbers_over_each_scaffold(self):
        for roots in ALL:
            for x in given_over(roots):
                self.looked_at(roots, x, sign_of(roots, x))

    def test_unlike_signs_are_told_by_the_norm(self):
        for roots in WITH_ROOTS:
            for x in given_over(roots):
                a, b = halves(x)
                signs = (sign(roots[:-1], a), sign(roots[:-1], b))
                if signs[0] * signs[1] == -1:
                    self.assertEqual(sign(roots, x), signs[0] * sign(roots[:-1], norm(roots, x)))

    def test_the_sign_of_a_product_is_the_product_of_the_signs(self):
        for roots in ALL:
            for x in given_over(roots)[::2]:
                for y in given_over(roots)[::3]:
                    self.assertEqual(sign(roots, times(roots, x, y)), sign(roots, x) * sign(roots, y))

    def test_the_roots_are_above_nought(self):
        for roots in WITH_ROOTS:
            for many in range(1, len(roots) + 1):
                self.looked_at(roots, lifted(last_root(roots[:many]), len(roots)), 1)

    def test_what_was_told_whatever_its_size(self):
        for roots in [ONE_ROOT[0], TWO_ROOTS[0], THREE_ROOTS[1]]:
            x = numbers_over(roots, 52, 1, GREAT, GREAT)[0]
            cubed = times(roots, x, times(roots, x, x))
            for _ in range(4):
                cubed = times(roots, cubed, times(roots, cubed, cubed))
            self.assertEqual(sign(roots, cubed), sign(roots, x))


def small_sign(roots, tops):
    spans = []
    for k, under in enumerate(roots):
        spans.append(small_value(spans, under) ** 0.5)
    told = small_value(spans, tops)
    return 0 if not any(tops) else (1 if told > 0 else -1)


def small_value(spans, tops):
    total = 0.0
    for i, top in enumerate(tops):
        part = float(top)
        for k, span in enumerate(spans):
            if i >> k & 1:
                part *= span
        total += part
    return total


class Compare(unittest.TestCase):
    def test_ordinary_numbers(self):
        self.assertEqual(compare((), ((1,), 2), ((1,), 3)), 1)
        self.assertEqual(compare((), ((1,), 3), ((1,), 2)), -1)
        self.assertEqual(compare((), ((-1,), 2), ((-1,), 2)), 0)
        self.assertEqual(compare(((2,),), ((0, 1), 1), ((7, 0), 5)), 1)
        self.assertEqual(compare(((2,),), ((0, 1), 1), ((3, 0), 2)), -1)
        self.assertEqual(compare(((2,), (3, 0)), ((0, 1, 1, 0), 1), ((0, 0, 0, 1), 1)), 1)

    def test_either_way(self):
        for roots in ALL:
            given = given_over(roots)
            for x in given[::2]:
                for y in given[::3]:
                    told = compare(roots, x, y)
                    self.assertEqual(told, sign_of(roots, minus(x, y)))
                    self.assertEqual(compare(roots, y, x), -told)
                    self.assertIs(type(told), int)

    def test_a_number_and_itself(self):
        for roots in ALL:
            for x in given_over(roots):
                self.assertEqual(compare(roots, x, x), 0)

    def test_near_numbers(self):
        for roots in WITH_ROOTS:
            for x in near_nought(roots, 5):
                y = numbers_over(roots, 53, 1)[0]
                self.assertEqual(compare(roots, plus(y, x), y), 1)
                self.assertEqual(compare(roots, y, plus(y, x)), -1)


class Size(Looks, unittest.TestCase):
    def test_ordinary_numbers(self):
        self.assertEqual(size((), ((-3,), 4)), ((3,), 4))
        self.assertEqual(size((), ((3,), 4)), ((3,), 4))
        self.assertEqual(size((), ((0,), 1)), ((0,), 1))
        self.assertEqual(size(((2,),), ((1, -1), 1)), ((-1, 1), 1))
        self.assertEqual(size(((2,),), ((-1, 1), 1)), ((-1, 1), 1))
        self.assertEqual(size(((2,),), ((2, -1), 1)), ((2, -1), 1))

    def test_over_each_scaffold(self):
        for roots in ALL:
            for x in given_over(roots):
                told = size(roots, x)
                self.assert_number(roots, told)
                self.assertEqual(told, against(x) if sign_of(roots, x) < 0 else x)
                self.assertEqual(size(roots, against(x)), told)


class Floor(unittest.TestCase):
    def looked_at(self, roots, x, places):
        told = floor_at(roots, x, places)
        with self.subTest(roots=roots, x=x, places=places):
            self.assertIs(type(told), int)
            if not any(x[0][1:]):
                self.assertEqual(told, x[0][0] * 10 ** places // x[1])
                return
            with decimal.localcontext() as context:
                context.prec = FIGURES
                scaled = value(roots, x) * 10 ** places
                self.assertTrue(told <= scaled < told + 1)
            scaled = made(tuple(top * 10 ** places for top in x[0]), x[1])
            self.assertGreaterEqual(compare(roots, scaled, whole(roots, told)), 0)
            self.assertEqual(compare(roots, scaled, whole(roots, told + 1)), -1)

    def test_ordinary_numbers(self):
        told = [
            ((), ((7,), 2), 0, 3), ((), ((-7,), 2), 0, -4), ((), ((7,), 2), 1, 35), ((), ((-7,), 2), 1, -35),
            ((), ((1,), 3), 3, 333), ((), ((-1,), 3), 3, -334), ((), ((0,), 1), 60, 0), ((), ((-2,), 1), 3, -2000),
            (((2,),), ((0, 1), 1), 0, 1), (((2,),), ((0, -1), 1), 0, -2), (((2,),), ((0, 1), 1), 3, 1414),
            (((2,),), ((0, -1), 1), 3, -1415), (((2,),), ((1, 1), 2), 1, 12),
            (((2,), (0, 3)), ((0, 0, 1, 0), 1), 3, 2059), (((2,), (0, 3)), ((0, 0, -1, 0), 1), 1, -21),
            (((2,),), ((0, 1), 1), 60, 1414213562373095048801688724209698078569671875376948073176679),
        ]
        for roots, x, places, wanted in told:
            self.assertEqual(floor_at(roots, x, places), wanted, (roots, x, places))

    def test_places_left_out(self):
        for roots in ALL:
            for x in given_over(roots):
                self.assertEqual(floor_at(roots, x), floor_at(roots, x, 0))
        self.assertEqual(floor_at(((2,),), ((0, -1), 1)), -2)

    def test_over_each_scaffold(self):
        for roots in ALL:
            for x in given_over(roots):
                for places in (0, 1, 3, 60):
                    self.looked_at(roots, x, places)
                    self.looked_at(roots, against(x), places)

    def test_each_number_of_places(self):
        for roots in [(), ((2,),), ((2,), (0, 3)), THREE_ROOTS[0]]:
            for places in range(61):
                self.looked_at(roots, ((-1,) * 2 ** len(roots), 3), places)

    def test_whole_numbers_and_their_neighbours(self):
        for roots in ALL:
            for n in (-GREAT, -2, -1, 0, 1, 2, GREAT):
                self.assertEqual(floor_at(roots, whole(roots, n)), n)
                self.assertEqual(floor_at(roots, whole(roots, n), 60), n * 10 ** 60)
                self.assertEqual(floor_at(roots, fraction(roots, n * 9 - 1, 9)), n - 1)
                self.assertEqual(floor_at(roots, fraction(roots, n * 9 + 1, 9)), n)
                self.assertEqual(floor_at(roots, fraction(roots, n, 8), 3), n * 125)

    def test_numbers_just_above_and_just_below_a_whole_one(self):
        for roots in WITH_ROOTS:
            for x in near_nought(roots, 14)[6:]:
                for n in (-3, 0, 10 ** 30):
                    self.looked_at(roots, plus(whole(roots, n), x), 0)
                    self.looked_at(roots, minus(whole(roots, n), x), 0)
        sharp = near_nought(((2,),), 400)[-1]
        self.assertEqual(floor_at(((2,),), sharp, 60), 0)
        self.assertEqual(floor_at(((2,),), against(sharp), 60), -1)

    def test_what_was_told_whatever_its_size(self):
        for roots in [ONE_ROOT[0], TWO_ROOTS[0], THREE_ROOTS[1]]:
            x = numbers_over(roots, 54, 1, GREAT, 9)[0]
            for _ in range(5):
                x = times(roots, x, x)
            told = floor_at(roots, x, 60)
            scaled = made(tuple(top * 10 ** 60 for top in x[0]), x[1])
            self.assertGreaterEqual(compare(roots, scaled, whole(roots, told)), 0)
            self.assertEqual(compare(roots, scaled, whole(roots, told + 1)), -1)


class Bounds(unittest.TestCase):
    def test_the_number_lies_between_however_rough_they_are(self):
        for roots in ALL:
            for x in edges_over(roots) + numbers_over(roots, 55, 200, 3, 1):
                exact = value(roots, (x[0], 1))
                for fine in (1, 2, 3, 16, 17, 2 ** 64):
                    low, high = bounds(roots, x[0], fine)
                    with decimal.localcontext() as context:
                        context.prec = FIGURES
                        self.assertTrue(low <= exact * fine <= high, (roots, x, fine))

    def test_they_come_as_near_as_wanted(self):
        for roots in ALL:
            for x in numbers_over(roots, 56, 10):
                low, high = bounds(roots, x[0], 2 ** 64)
                self.assertLess(high - low, 2 ** 44)


class WhatIsHandedIn(unittest.TestCase):
    def test_it_stays(self):
        roots = ((2,), (0, 3))
        x, y = ((1, -2, 3, -4), 5), ((0, -1, 0, 2), 3)
        kept = copy.deepcopy((roots, x, y))
        for _ in range(2):
            sign(roots, x), compare(roots, x, y), size(roots, x), floor_at(roots, x, 3)
        self.assertEqual((roots, x, y), kept)


if __name__ == "__main__":
    unittest.main()
