"""[33]: least equations; [3]: their degrees are 1, 2, 4 or 8."""

import copy
import math
import unittest
from fractions import Fraction

from compasshall.drawings import drawn
from compasshall.equations import equation
from compasshall.sums import floors
from handy import (ALL, DRAWINGS, GREAT, NONE, THREE_ROOTS, TWO_ROOTS, Looks, edges_over, joined, last_root, lowest,
                   names_in, numbers_over, parted, parts_plus, parts_times, whole)


def put_in(roots, told, x):
    """c0 + c1 * x + .. + cd * x ** d, from the last on."""
    total, given = {}, parted(x)
    for c in reversed(told):
        total = parts_plus(parts_times(roots, total, given), {0: Fraction(c)} if c else {})
    return joined(total, len(roots))


def least_degree(roots, x):
    """The least d for which 1, x, .., x ** d are no longer free of one another: by rows of fractions made shorter."""
    places, kept, power, degree = 2 ** len(roots), [], {0: Fraction(1)}, 0
    while True:
        row = [power.get(i, Fraction(0)) for i in range(places)]
        for lead, other in kept:
            factor = row[lead]
            row = [one - factor * two for one, two in zip(row, other)]
        leads = [i for i, one in enumerate(row) if one != 0]
        if not leads:
            return degree
        kept.append((leads[0], [one / row[leads[0]] for one in row]))
        power, degree = parts_times(roots, power, parted(x)), degree + 1


class Equations(Looks, unittest.TestCase):
    def assert_equation(self, roots, x):
        told = equation(roots, x)
        self.assertIs(type(told), list)
        for c in told:
            self.assertIs(type(c), int)
        self.assertGreater(told[-1], 0)
        self.assertEqual(math.gcd(*told), 1)
        self.assertEqual(put_in(roots, told, x), whole(roots, 0))
        self.assertIn(len(told) - 1, (1, 2, 4, 8))
        self.assertLessEqual(len(told) - 1, 2 ** floors(x))
        self.assertEqual(len(told) - 1, least_degree(roots, x))
        return len(told) - 1

    def test_fractions(self):
        for roots in ALL:
            for top, bottom in [(0, 1), (1, 1), (-1, 1), (3, 4), (-3, 4), (10, 1), (-1, 7), (GREAT + 1, GREAT - 1)]:
                x = lowest([top] + [0] * (2 ** len(roots) - 1), bottom)
                self.assertEqual(equation(roots, x), [-top, bottom])
                self.assertEqual(self.assert_equation(roots, x), 1)

    def test_nought(self):
        for roots in ALL:
            self.assertEqual(equation(roots, whole(roots, 0)), [0, 1])

    def test_ordinary_numbers(self):
        two = ((2,),)
        self.assertEqual(equation(two, ((0, 1), 1)), [-2, 0, 1])
        self.assertEqual(equation(two, ((1, 1), 1)), [-1, -2, 1])
        self.assertEqual(equation(two, ((0, 1), 2)), [-1, 0, 2])
        self.assertEqual(equation(two, ((0, -3), 1)), [-18, 0, 1])
        self.assertEqual(equation(((5,),), ((1, 1), 2)), [-1, -1, 1])
        self.assertEqual(equation(((5,),), ((-1, 1), 4)), [-1, 2, 4])
        both = ((2,), (3, 0))
        self.assertEqual(equation(both, ((0, 1, 1, 0), 1)), [1, 0, -10, 0, 1])
        self.assertEqual(equation(both, ((0, 0, 0, 1), 1)), [-6, 0, 1])
        self.assertEqual(equation(both, ((0, 0, 1, 0), 1)), [-3, 0, 1])
        self.assertEqual(equation(both, ((0, 1, 1, 0), 2)), [1, 0, -40, 0, 16])
        self.assertEqual(equation(((2,), (2, 1)), ((0, 0, 1, 0), 1)), [2, 0, -4, 0, 1])
        self.assertEqual(equation(((2,), (0, 3)), ((0, 0, 1, 0), 1)), [-18, 0, 0, 0, 1])
        three = ((2,), (3, 0), (5, 0, 0, 0))
        self.assertEqual(equation(three, ((0, 1, 1, 0, 1, 0, 0, 0), 1)), [576, 0, -960, 0, 352, 0, -40, 0, 1])
        self.assertEqual(equation(three, ((0, 0, 0, 0, 0, 0, 0, 1), 1)), [-30, 0, 1])
        self.assertEqual(equation(((3,), (0, 1), (0, 0, 1, 0)), ((0, 0, 0, 0, 1, 0, 0, 0), 1)),
                         [-3, 0, 0, 0, 0, 0, 0, 0, 1])

    def test_over_each_scaffold(self):
        degrees = {}
        for roots in ALL:
            for x in edges_over(roots) + numbers_over(roots, 320, 4):
                degree = self.assert_equation(roots, x)
                degrees[(len(roots), degree)] = True
        for pair in [(0, 1), (1, 1), (1, 2), (2, 1), (2, 2), (2, 4), (3, 1), (3, 2), (3, 4), (3, 8)]:
            self.assertIn(pair, degrees)

    def test_numbers_that_need_fewer_roots(self):
        for roots in TWO_ROOTS + THREE_ROOTS:
            for at in range(2 ** len(roots)):
                for front in (0, 3):
                    tops = [front] + [0] * (2 ** len(roots) - 1)
                    tops[at] += 5
                    self.assert_equation(roots, lowest(tops, 7))

    def test_two_products_that_need_all_roots_or_fewer(self):
        roots = THREE_ROOTS[0]
        for one in range(1, 8):
            for other in range(1, 8):
                tops = [1] + [0] * 7
                tops[one] += 2
                tops[other] += 3
                degree = self.assert_equation(roots, lowest(tops, 1))
                self.assertEqual(degree, 2 if one == other else 4)

    def test_the_last_root_of_each_scaffold(self):
        for roots in ALL:
            if roots != NONE:
                self.assert_equation(roots, last_root(roots))
        self.assertEqual(len(equation(THREE_ROOTS[1], last_root(THREE_ROOTS[1]))), 9)
        self.assertEqual(len(equation(THREE_ROOTS[0], last_root(THREE_ROOTS[0]))), 3)

    def test_a_number_above_that_is_told_by_a_nested_root(self):
        # The root of 5 + 2 * (the root of 6) is that of 2 and that of 3 together.
        self.assertEqual(equation(((6,), (5, 2)), ((0, 0, 1, 0), 1)), [1, 0, -10, 0, 1])
        self.assertEqual(equation(((6,), (5, 2)), ((0, 0, -2, 1), 1)), [-2, 0, 1])

    def test_all_numbers_of_drawings(self):
        degrees = {}
        for rows in DRAWINGS:
            drawing = drawn(rows)
            for name in names_in(drawing):
                for x in drawing.place(name)[1:]:
                    degrees[self.assert_equation(drawing.roots(), x)] = True
        self.assertEqual(sorted(degrees), [1, 2, 4, 8])

    def test_the_list_is_a_new_one_each_time(self):
        roots, x = ((2,), (3, 0)), ((0, 1, 1, 0), 1)
        kept = copy.deepcopy((roots, x))
        told = equation(roots, x)
        told.clear()
        self.assertEqual(equation(roots, x), [1, 0, -10, 0, 1])
        self.assertEqual((roots, x), kept)

    def test_great_numbers(self):
        for roots in [NONE, ((10 ** 59 + 7,),), ((2,), (2, 1)), THREE_ROOTS[2]]:
            for x in numbers_over(roots, 321, 1, 10 ** 59, 10 ** 59):
                self.assertEqual(self.assert_equation(roots, x), 2 ** len(roots))


if __name__ == "__main__":
    unittest.main()
