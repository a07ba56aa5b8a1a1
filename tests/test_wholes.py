"""[4]: the greatest number that divides two whole numbers, and the whole root."""

import math
import unittest

from compasshall.errors import Below, HallError
from compasshall.wholes import common, whole_root

GREAT = 10 ** 60 - 1


class Common(unittest.TestCase):
    def test_ordinary_numbers(self):
        for a, b, told in [(12, 18, 6), (18, 12, 6), (7, 5, 1), (5, 5, 5), (1, 9, 1), (100, 10, 10)]:
            self.assertEqual(common(a, b), told)

    def test_it_is_told_without_a_sign(self):
        for a, b in [(12, 18), (-12, 18), (12, -18), (-12, -18)]:
            self.assertEqual(common(a, b), 6)
        for a, b in [(-7, 7), (7, -7), (-7, -7)]:
            self.assertEqual(common(a, b), 7)

    def test_nought_and_a_number(self):
        for n in [1, 2, 9, 10 ** 59, GREAT]:
            for a, b in [(0, n), (n, 0), (0, -n), (-n, 0)]:
                self.assertEqual(common(a, b), n)

    def test_nought_and_nought(self):
        self.assertEqual(common(0, 0), 0)

    def test_it_divides_both_and_is_the_greatest(self):
        for a in range(-30, 31):
            for b in range(-30, 31):
                if a == 0 and b == 0:
                    continue
                dividing = [d for d in range(1, 31) if a % d == 0 and b % d == 0]
                self.assertEqual(common(a, b), max(dividing), (a, b))

    def test_numbers_of_sixty_figures(self):
        for a, b in [(GREAT, 10 ** 59), (2 ** 150 * 3 ** 20, 2 ** 100 * 3 ** 40), (GREAT, -GREAT)]:
            self.assertEqual(common(a, b), math.gcd(a, b))

    def test_numbers_that_take_the_most_steps(self):
        one, other = 1, 1
        while other < 10 ** 59:
            one, other = other, one + other
        self.assertEqual(common(one, other), 1)
        self.assertEqual(common(other * 6, one * 6), 6)

    def test_an_int_that_is_no_truth_is_told(self):
        for a, b in [(0, 0), (0, 1), (1, 0), (1, 1), (-1, 1), (4, 6)]:
            self.assertIs(type(common(a, b)), int)


class WholeRoot(unittest.TestCase):
    def test_nought_and_one(self):
        self.assertEqual(whole_root(0), 0)
        self.assertEqual(whole_root(1), 1)

    def test_small_numbers(self):
        for n in range(5000):
            told = whole_root(n)
            self.assertTrue(told >= 0 and told * told <= n < (told + 1) * (told + 1), n)

    def test_squares_and_their_neighbours(self):
        for figures in range(1, 31):
            for r in (10 ** (figures - 1), 10 ** figures - 1, 10 ** figures // 3 + 1):
                self.assertEqual(whole_root(r * r), r)
                self.assertEqual(whole_root(r * r - 1), r - 1)
                self.assertEqual(whole_root(r * r + 1), r)

    def test_numbers_up_to_sixty_figures(self):
        for figures in range(1, 61):
            for n in (10 ** (figures - 1), 10 ** figures - 1, 7 * 10 ** (figures - 1) + 3):
                self.assertEqual(whole_root(n), math.isqrt(n))

    def test_powers_of_two_and_their_neighbours(self):
        for k in range(210):
            for n in (2 ** k - 1, 2 ** k, 2 ** k + 1):
                self.assertEqual(whole_root(n), math.isqrt(n))

    def test_numbers_that_are_greater_than_those_handed_in_first(self):
        for n in (10 ** 599, 3 ** 2500, 7 ** 4000 * 7 ** 4000, 7 ** 8000 - 1):
            self.assertEqual(whole_root(n), math.isqrt(n))

    def test_below_nought_is_refused(self):
        for n in (-1, -2, -4, -9, -GREAT):
            for taker in (Below, HallError, ValueError):
                with self.assertRaises(taker):
                    whole_root(n)
            try:
                whole_root(n)
            except HallError as refusal:
                self.assertIs(type(refusal), Below)

    def test_an_int_that_is_no_truth_is_told(self):
        for n in (0, 1, 2, 4):
            self.assertIs(type(whole_root(n)), int)


if __name__ == "__main__":
    unittest.main()
