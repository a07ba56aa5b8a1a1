"""[6], [7], [8]: numbers made, added, multiplied, lifted and parted."""

import copy
import unittest

from compasshall.errors import NoOver
from compasshall.sums import against, floors, halves, lifted, made, minus, plus, times
from handy import (ALL, GREAT, NONE, ONE_ROOT, THREE_ROOTS, TWO_ROOTS, WITH_ROOTS, Looks, Wheel, edges_over, last_root,
                   lowest, numbers_over, product_of, sum_of, value, whole)


class Made(Looks, unittest.TestCase):
    def test_tops_and_bottoms_with_and_without_a_sign(self):
        told = [
            ((6,), 8, ((3,), 4)), ((-6,), 8, ((-3,), 4)), ((6,), -8, ((-3,), 4)), ((-6,), -8, ((3,), 4)),
            ((5,), 1, ((5,), 1)), ((5,), -1, ((-5,), 1)), ((7,), 7, ((1,), 1)), ((7,), -7, ((-1,), 1)),
            ((4, 6), 2, ((2, 3), 1)), ((4, 6), -2, ((-2, -3), 1)), ((4, 5), 2, ((4, 5), 2)),
            ((-4, 6), 8, ((-2, 3), 4)), ((4, -6), -8, ((-2, 3), 4)),
            ((3, 0, 0, 9), 6, ((1, 0, 0, 3), 2)), ((3, 0, 1, 9), 6, ((3, 0, 1, 9), 6)),
            ((0, 0, 0, -10), 15, ((0, 0, 0, -2), 3)), ((0, 0, 0, -10), -15, ((0, 0, 0, 2), 3)),
            ((2, 4, 6, 8, 10, 12, 14, 16), 6, ((1, 2, 3, 4, 5, 6, 7, 8), 3)),
            ((2, 4, 6, 8, 10, 12, 14, 15), 6, ((2, 4, 6, 8, 10, 12, 14, 15), 6)),
            ((0, 0, 0, 0, 0, 0, 0, 21), -14, ((0, 0, 0, 0, 0, 0, 0, -3), 2)),
        ]
        for tops, bottom, number in told:
            with self.subTest(tops=tops, bottom=bottom):
                self.assertEqual(made(tops, bottom), number)

    def test_noughts(self):
        for places in (1, 2, 4, 8):
            for bottom in (1, -1, 2, 7, -12, 10 ** 59, -10 ** 59):
                self.assertEqual(made((0,) * places, bottom), ((0,) * places, 1))

    def test_a_bottom_of_nought_is_refused(self):
        for tops in [(0,), (1,), (-5,), (0, 0), (1, 2), (0, 0, 0, 0), (1, 2, 3, 4), (0,) * 8, (9,) * 8]:
            self.assert_refused(NoOver, made, tops, 0)

    def test_the_form_of_what_is_told(self):
        wheel = Wheel(1)
        for roots in ALL:
            for greatest in (1, 6, 60, GREAT, 10 ** 59):
                for _ in range(20):
                    tops = tuple(wheel.between(-greatest, greatest) for _ in range(2 ** len(roots)))
                    bottom = wheel.between(1, greatest)
                    self.assert_number(roots, made(tops, bottom))
                    self.assertEqual(made(tops, bottom), lowest(tops, bottom))
                    self.assertEqual(made(tops, -bottom), lowest([-top for top in tops], bottom))

    def test_a_shared_divisor_goes_away_whatever_it_is(self):
        for shared in (-1, 2, -6, 10 ** 30, -10 ** 59 + 1):
            for tops, bottom in [((3,), 5), ((0, 1), 4), ((2, 0, 0, 1), 2), ((1, 2, 3, 4, 5, 6, 7, 8), 24)]:
                self.assertEqual(made(tuple(top * shared for top in tops), bottom * shared), (tops, bottom))

    def test_each_number_has_one_telling(self):
        for roots in ALL:
            for x in edges_over(roots) + numbers_over(roots, 2, 10):
                for k in (1, -1, 4, -30):
                    self.assertEqual(made(tuple(top * k for top in x[0]), x[1] * k), x)


class Sums(Looks, unittest.TestCase):
    def test_ordinary_numbers(self):
        self.assertEqual(plus(((1,), 2), ((1,), 3)), ((5,), 6))
        self.assertEqual(minus(((1,), 2), ((1,), 3)), ((1,), 6))
        self.assertEqual(minus(((1,), 3), ((1,), 2)), ((-1,), 6))
        self.assertEqual(plus(((1, 1), 2), ((1, -1), 2)), ((1, 0), 1))
        self.assertEqual(minus(((1, 1), 2), ((1, -1), 2)), ((0, 1), 1))
        self.assertEqual(against(((1, -2), 3)), ((-1, 2), 3))
        self.assertEqual(against(((0, 0, 0, 0), 1)), ((0, 0, 0, 0), 1))
        self.assertEqual(plus(((1, 2, 3, 4), 6), ((1, 0, 1, 0), 6)), ((1, 1, 2, 2), 3))

    def test_over_each_scaffold(self):
        for roots in ALL:
            given = edges_over(roots) + numbers_over(roots, 3, 5)
            for x in given:
                self.assertEqual(against(x), (tuple(-top for top in x[0]), x[1]))
                self.assert_number(roots, against(x))
                for y in given:
                    self.assertEqual(plus(x, y), sum_of(x, y))
                    self.assertEqual(minus(x, y), sum_of(x, against(y)))
                    self.assert_number(roots, plus(x, y))
                    self.assert_number(roots, minus(x, y))
                    self.assertEqual(plus(minus(x, y), y), x)

    def test_a_number_and_its_against_give_nought(self):
        for roots in ALL:
            for x in edges_over(roots) + numbers_over(roots, 4, 5, GREAT, GREAT):
                self.assertEqual(plus(x, against(x)), whole(roots, 0))
                self.assertEqual(minus(x, x), whole(roots, 0))
                self.assertEqual(against(against(x)), x)


class Products(Looks, unittest.TestCase):
    def test_ordinary_numbers(self):
        roots = ((2,), (0, 3))
        self.assertEqual(times((), ((2,), 3), ((-3,), 4)), ((-1,), 2))
        self.assertEqual(times(((2,),), ((1, 1), 1), ((1, -1), 1)), ((-1, 0), 1))
        self.assertEqual(times(((2,),), ((1, 1), 1), ((1, 1), 1)), ((3, 2), 1))
        self.assertEqual(times(((2,),), ((0, 1), 2), ((0, 1), 1)), ((1, 0), 1))
        self.assertEqual(times(roots, ((0, 1, 0, 0), 1), ((0, 0, 1, 0), 1)), ((0, 0, 0, 1), 1))
        self.assertEqual(times(roots, ((0, 0, 0, 1), 1), ((0, 0, 0, 1), 1)), ((0, 6, 0, 0), 1))
        self.assertEqual(times(roots, ((0, 0, 0, 1), 1), ((0, 0, 1, 0), 1)), ((6, 0, 0, 0), 1))

    def test_over_each_scaffold(self):
        for roots in ALL:
            given = edges_over(roots) + numbers_over(roots, 5, 3)
            for x in given:
                for y in given:
                    self.assertEqual(times(roots, x, y), product_of(roots, x, y))

    def test_the_form_of_what_is_told(self):
        for roots in ALL:
            for x in edges_over(roots):
                for y in edges_over(roots):
                    self.assert_number(roots, times(roots, x, y))

    def test_with_tops_of_twenty_figures(self):
        for roots in ALL:
            given = numbers_over(roots, 6, 4, GREAT, GREAT)
            for x in given:
                for y in given:
                    self.assertEqual(times(roots, x, y), product_of(roots, x, y))

    def test_it_stands_for_the_product(self):
        for roots in ALL:
            given = numbers_over(roots, 7, 4)
            for x, y in zip(given, given[1:]):
                far_off = value(roots, times(roots, x, y)) - value(roots, x) * value(roots, y)
                self.assertLess(abs(far_off), 10 ** -9)

    def test_each_root_times_itself_is_the_number_under_it(self):
        for roots in WITH_ROOTS:
            for many in range(1, len(roots) + 1):
                last = lifted(last_root(roots[:many]), len(roots))
                under = lifted((roots[many - 1], 1), len(roots))
                self.assertEqual(times(roots, last, last), under)

    def test_nought_and_one(self):
        for roots in ALL:
            for x in edges_over(roots):
                self.assertEqual(times(roots, x, whole(roots, 0)), whole(roots, 0))
                self.assertEqual(times(roots, whole(roots, 1), x), x)
                self.assertEqual(times(roots, x, whole(roots, -1)), against(x))

    def test_sums_multiplied(self):
        for roots in ALL:
            x, y, z = numbers_over(roots, 8, 3, GREAT, 99)
            self.assertEqual(times(roots, x, y), times(roots, y, x))
            self.assertEqual(times(roots, x, times(roots, y, z)), times(roots, times(roots, x, y), z))
            self.assertEqual(times(roots, x, plus(y, z)), plus(times(roots, x, y), times(roots, x, z)))

    def test_what_was_told_is_handed_in_whatever_its_size(self):
        for roots in [NONE, ONE_ROOT[0], TWO_ROOTS[0], THREE_ROOTS[0]]:
            x = numbers_over(roots, 9, 1, GREAT, GREAT)[0]
            for _ in range(8):
                x = times(roots, x, x)
            self.assert_number(roots, x)
            self.assertGreater(max(abs(top) for top in x[0]), 10 ** 4400)
            self.assertEqual(times(roots, x, plus(x, whole(roots, 1))), plus(times(roots, x, x), x))
            self.assertEqual(minus(plus(x, x), x), x)
            self.assertEqual(made(x[0], x[1]), x)


class Lifted(Looks, unittest.TestCase):
    def test_ordinary_numbers(self):
        self.assertEqual(lifted(((3,), 4), 0), ((3,), 4))
        self.assertEqual(lifted(((3,), 4), 1), ((3, 0), 4))
        self.assertEqual(lifted(((3,), 4), 2), ((3, 0, 0, 0), 4))
        self.assertEqual(lifted(((3,), 4), 3), ((3, 0, 0, 0, 0, 0, 0, 0), 4))
        self.assertEqual(lifted(((1, -2), 5), 2), ((1, -2, 0, 0), 5))

    def test_to_every_greater_number_of_roots(self):
        for roots in THREE_ROOTS:
            for few in range(4):
                for x in edges_over(roots[:few]) + numbers_over(roots[:few], 10, 5):
                    for many in range(few, 4):
                        told = lifted(x, many)
                        self.assertEqual(told, (x[0] + (0,) * (2 ** many - 2 ** few), x[1]))
                        self.assert_number(roots[:many], told)
                        self.assertEqual(value(roots[:many], told), value(roots[:few], x))

    def test_sums_and_products_lifted(self):
        for roots in THREE_ROOTS:
            for few in range(3):
                x, y = numbers_over(roots[:few], 11, 2)
                for many in range(few, 4):
                    one, other = lifted(x, many), lifted(y, many)
                    self.assertEqual(lifted(plus(x, y), many), plus(one, other))
                    self.assertEqual(lifted(times(roots[:few], x, y), many), times(roots[:many], one, other))


class Floors(unittest.TestCase):
    def test_nought_and_fractions(self):
        for places in (1, 2, 4, 8):
            behind = (0,) * (places - 1)
            for x in [((0,) + behind, 1), ((1,) + behind, 1), ((-3,) + behind, 4)]:
                told = floors(x)
                self.assertEqual(told, 0)
                self.assertIs(type(told), int)

    def test_each_place_alone(self):
        wanted = [0, 1, 2, 2, 3, 3, 3, 3]
        for places in (1, 2, 4, 8):
            for at in range(places):
                for top in (1, -1, -GREAT):
                    x = (tuple(top if i == at else 0 for i in range(places)), 1)
                    self.assertEqual(floors(x), wanted[at])

    def test_numbers_over_one_two_and_three_roots(self):
        self.assertEqual(floors(((5, 1), 2)), 1)
        self.assertEqual(floors(((5, 1, 0, 0), 2)), 1)
        self.assertEqual(floors(((5, 1, 0, 0, 0, 0, 0, 0), 2)), 1)
        self.assertEqual(floors(((5, 0, 1, 0), 2)), 2)
        self.assertEqual(floors(((0, 0, 0, 1), 2)), 2)
        self.assertEqual(floors(((1, 1, 1, 1, 0, 0, 0, 0), 2)), 2)
        self.assertEqual(floors(((1, 0, 0, 0, 1, 0, 0, 0), 2)), 3)
        self.assertEqual(floors(((0, 0, 0, 0, 0, 0, 0, -1), 2)), 3)

    def test_lifted_numbers_keep_their_floors(self):
        for roots in ALL:
            for x in edges_over(roots):
                for many in range(len(roots), 4):
                    self.assertEqual(floors(lifted(x, many)), floors(x))


class Halves(Looks, unittest.TestCase):
    def test_ordinary_numbers(self):
        self.assertEqual(halves(((1, 2), 3)), (((1,), 3), ((2,), 3)))
        self.assertEqual(halves(((2, 3), 6)), (((1,), 3), ((1,), 2)))
        self.assertEqual(halves(((0, 0), 1)), (((0,), 1), ((0,), 1)))
        self.assertEqual(halves(((0, 5), 7)), (((0,), 1), ((5,), 7)))
        self.assertEqual(halves(((4, 2, 3, 9), 6)), (((2, 1), 3), ((1, 3), 2)))
        self.assertEqual(halves(((1, 2, 3, 4, 5, 6, 7, 8), 1)), (((1, 2, 3, 4), 1), ((5, 6, 7, 8), 1)))

    def test_both_and_the_last_root_are_the_number_again(self):
        for roots in WITH_ROOTS:
            for x in edges_over(roots) + numbers_over(roots, 12, 10) + numbers_over(roots, 13, 3, GREAT, GREAT):
                told = halves(x)
                self.assertIs(type(told), tuple)
                self.assertEqual(len(told), 2)
                a, b = told
                self.assert_number(roots[:-1], a)
                self.assert_number(roots[:-1], b)
                many = len(roots)
                again = plus(lifted(a, many), times(roots, lifted(b, many), last_root(roots)))
                self.assertEqual(again, x)


class WhatIsHandedIn(unittest.TestCase):
    def test_it_stays(self):
        roots = ((2,), (0, 3))
        x, y = ((1, 2, 3, 4), 5), ((0, -1, 0, 2), 3)
        kept = copy.deepcopy((roots, x, y))
        for _ in range(2):
            plus(x, y), minus(x, y), against(x), times(roots, x, y), lifted(x, 3), floors(x), halves(x), made(x[0], -4)
        self.assertEqual((roots, x, y), kept)


if __name__ == "__main__":
    unittest.main()
