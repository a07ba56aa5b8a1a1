"""[19], [20], [21]: points, lines and rings, and how they lie."""

import copy
import itertools
import unittest

from compasshall.errors import NoLine, NoRing
from compasshall.places import far, line_of, ring_about, ring_through, side_of_line, side_of_ring
from compasshall.sums import against, minus, plus
from handy import (ALL, GREAT, WITH_ROOTS, Looks, far_by_hand, fraction, last_root, left_of_line, numbers_over, point,
                   points_over, product_of, sign_of, turn, whole)


class LineOf(Looks, unittest.TestCase):
    def test_in_each_direction(self):
        told = {
            (1, 0): (0, 1, 0), (-1, 0): (0, -1, 0), (0, 1): (-1, 0, 0), (0, -1): (1, 0, 0),
            (1, 1): (-1, 1, 0), (-1, 1): (-1, -1, 0), (-1, -1): (1, -1, 0), (1, -1): (1, 1, 0),
            (5, 0): (0, 1, 0), (0, -7): (1, 0, 0), (6, 2): (-1, 3, 0), (-6, 2): (-1, -3, 0),
        }
        for roots in ALL:
            for (x, y), (a, b, c) in told.items():
                line = line_of(roots, point(roots, 0, 0), point(roots, x, y))
                self.assertEqual(line, (whole(roots, a), whole(roots, b), whole(roots, c)))

    def test_away_from_nought(self):
        self.assertEqual(line_of((), point((), 1, 2), point((), 3, 3)), (((-1,), 1), ((2,), 1), ((3,), 1)))
        self.assertEqual(line_of((), point((), 3, 3), point((), 1, 2)), (((1,), 1), ((-2,), 1), ((-3,), 1)))
        self.assertEqual(line_of((), point((), 1, 4), point((), 9, 4)), (((0,), 1), ((1,), 1), ((4,), 1)))
        self.assertEqual(line_of((), point((), 9, 4), point((), 1, 4)), (((0,), 1), ((-1,), 1), ((-4,), 1)))
        self.assertEqual(line_of((), point((), 5, 1), point((), 5, 2)), (((-1,), 1), ((0,), 1), ((-5,), 1)))
        self.assertEqual(line_of((), point((), 0, 0), point((), 2, 3)), (((-1,), 1), ((2,), 3), ((0,), 1)))

    def test_over_each_scaffold(self):
        for roots in ALL:
            for one, other in itertools.permutations(points_over(roots, 110, 4), 2):
                line = line_of(roots, one, other)
                self.assertIs(type(line), tuple)
                self.assertEqual(len(line), 3)
                for number in line:
                    self.assert_number(roots, number)
                ones = [whole(roots, 1), whole(roots, -1)]
                self.assertTrue(line[0] in ones or (line[0] == whole(roots, 0) and line[1] in ones))
                self.assertEqual(left_of_line(roots, line, one), whole(roots, 0))
                self.assertEqual(left_of_line(roots, line, other), whole(roots, 0))
                # It goes from (x, y) to (x + b, y - a), and so from the one to the other.
                e, f = minus(other[0], one[0]), minus(other[1], one[1])
                along = minus(product_of(roots, e, line[1]), product_of(roots, f, line[0]))
                self.assertEqual(sign_of(roots, along), 1)

    def test_upright_and_level_ones_over_each_scaffold(self):
        for roots in ALL:
            for x, y, more in zip(*[numbers_over(roots, seed, 4) for seed in (111, 112, 113)]):
                if any(more[0]):
                    way = whole(roots, sign_of(roots, more))
                    nought = whole(roots, 0)
                    level = line_of(roots, (x, y), (plus(x, more), y))
                    self.assertEqual(level, (nought, way, product_of(roots, way, y)))
                    upright = line_of(roots, (x, y), (x, plus(y, more)))
                    self.assertEqual(upright, (against(way), nought, product_of(roots, against(way), x)))

    def test_it_is_told_in_one_way_alone(self):
        for roots in ALL:
            one, other = points_over(roots, 114, 2)
            e, f = minus(other[0], one[0]), minus(other[1], one[1])
            line = line_of(roots, one, other)
            further = (plus(other[0], e), plus(other[1], f))
            self.assertEqual(line_of(roots, one, further), line)
            self.assertEqual(line_of(roots, other, further), line)
            self.assertEqual(line_of(roots, other, one), tuple(against(number) for number in line))

    def test_the_same_point_twice_is_refused(self):
        for roots in ALL:
            for place in points_over(roots, 115, 3) + [point(roots, 0, 0)]:
                self.assert_refused(NoLine, line_of, roots, place, place)
                self.assert_refused(NoLine, line_of, roots, place, (place[0], place[1]))


class Rings(Looks, unittest.TestCase):
    def test_about_a_point(self):
        for roots in ALL:
            for place in points_over(roots, 120, 2):
                for s in numbers_over(roots, 121, 8) + [fraction(roots, 1, 1000), whole(roots, GREAT)]:
                    if sign_of(roots, s) > 0:
                        self.assertEqual(ring_about(roots, place, s), (place[0], place[1], s))
                    else:
                        self.assert_refused(NoRing, ring_about, roots, place, s)

    def test_about_a_point_with_nought_or_below_it_is_refused(self):
        for roots in ALL:
            for s in [whole(roots, 0), whole(roots, -1), whole(roots, -4), fraction(roots, -1, 1000)]:
                self.assert_refused(NoRing, ring_about, roots, point(roots, 1, 2), s)
        for roots in WITH_ROOTS:
            self.assert_refused(NoRing, ring_about, roots, point(roots, 1, 2), against(last_root(roots)))
        self.assert_refused(NoRing, ring_about, ((2,),), point(((2,),), 1, 2), ((-99, 70), 1))
        self.assertEqual(ring_about(((2,),), point(((2,),), 1, 2), ((99, -70), 1))[2], ((99, -70), 1))

    def test_through_a_point(self):
        self.assertEqual(ring_through((), point((), 1, 2), point((), 4, 6)), (((1,), 1), ((2,), 1), ((25,), 1)))
        self.assertEqual(ring_through((), point((), 4, 6), point((), 1, 2)), (((4,), 1), ((6,), 1), ((25,), 1)))
        for roots in ALL:
            for one, other in itertools.permutations(points_over(roots, 122, 4), 2):
                ring = ring_through(roots, one, other)
                self.assertEqual(ring, (one[0], one[1], far_by_hand(roots, one, other)))
                self.assertEqual(side_of_ring(roots, ring, other), 0)

    def test_through_its_own_point_it_is_refused(self):
        for roots in ALL:
            for place in points_over(roots, 123, 3) + [point(roots, 0, 0)]:
                self.assert_refused(NoRing, ring_through, roots, place, place)


class Far(Looks, unittest.TestCase):
    def test_ordinary_points(self):
        self.assertEqual(far((), point((), 0, 0), point((), 3, 4)), ((25,), 1))
        self.assertEqual(far((), point((), -1, 2), point((), 2, -2)), ((25,), 1))
        self.assertEqual(far((), (((1,), 2), ((0,), 1)), (((0,), 1), ((1,), 3))), ((13,), 36))
        self.assertEqual(far(((2,),), (((0, 1), 1), ((0, 0), 1)), (((0, 0), 1), ((1, 0), 1))), ((3, 0), 1))

    def test_over_each_scaffold(self):
        for roots in ALL:
            for one, other in itertools.product(points_over(roots, 124, 4), repeat=2):
                told = far(roots, one, other)
                self.assert_number(roots, told)
                self.assertEqual(told, far_by_hand(roots, one, other))
                self.assertEqual(told, far(roots, other, one))
                self.assertEqual(sign_of(roots, told), 0 if one == other else 1)


class Sides(unittest.TestCase):
    def test_by_lines_of_two_points(self):
        line = line_of((), point((), 0, 0), point((), 2, 1))
        for x, y, side in [(0, 0, 0), (2, 1, 0), (4, 2, 0), (-2, -1, 0), (0, 1, 1), (2, 2, 1), (1, 0, -1), (3, 1, -1)]:
            told = side_of_line((), line, point((), x, y))
            self.assertEqual(told, side)
            self.assertIs(type(told), int)

    def test_left_and_right_in_each_direction(self):
        ways = [(1, 0), (1, 1), (0, 1), (-1, 1), (-1, 0), (-1, -1), (0, -1), (1, -1), (3, 1)]
        for roots in ALL:
            for x, y in ways:
                line = line_of(roots, point(roots, 5, 7), point(roots, 5 + x, 7 + y))
                self.assertEqual(side_of_line(roots, line, point(roots, 5 - y, 7 + x)), 1)
                self.assertEqual(side_of_line(roots, line, point(roots, 5 + y, 7 - x)), -1)
                self.assertEqual(side_of_line(roots, line, point(roots, 5 - 3 * x, 7 - 3 * y)), 0)

    def test_by_lines_over_each_scaffold(self):
        for roots in ALL:
            for one, other, third in itertools.permutations(points_over(roots, 125, 4), 3):
                line = line_of(roots, one, other)
                self.assertEqual(side_of_line(roots, line, third), sign_of(roots, turn(roots, one, other, third)))
                self.assertEqual(side_of_line(roots, line, one), 0)
                self.assertEqual(side_of_line(roots, line, other), 0)

    def test_by_lines_that_are_told_otherwise(self):
        for roots in ALL:
            given = numbers_over(roots, 126, 9)
            for line in zip(given, given[3:], given[6:]):
                for place in points_over(roots, 127, 3):
                    self.assertEqual(side_of_line(roots, line, place), sign_of(roots, left_of_line(roots, line, place)))

    def test_by_a_ring(self):
        ring = (((1,), 1), ((1,), 1), ((25,), 1))
        for x, y, side in [(1, 1, -1), (4, 5, 0), (-2, -3, 0), (6, 1, 0), (1, -4, 0), (4, 4, -1), (5, 5, 1), (6, 2, 1)]:
            told = side_of_ring((), ring, point((), x, y))
            self.assertEqual(told, side)
            self.assertIs(type(told), int)

    def test_by_rings_over_each_scaffold(self):
        for roots in ALL:
            for about, through, third in itertools.permutations(points_over(roots, 128, 4), 3):
                ring = ring_through(roots, about, through)
                self.assertEqual(side_of_ring(roots, ring, about), -1)
                self.assertEqual(side_of_ring(roots, ring, through), 0)
                rest = minus(far_by_hand(roots, about, third), far_by_hand(roots, about, through))
                self.assertEqual(side_of_ring(roots, ring, third), sign_of(roots, rest))

    def test_just_within_and_just_outside(self):
        roots = ((2,),)
        ring = ring_about(roots, point(roots, 0, 0), ((2, 0), 1))
        nought = whole(roots, 0)
        self.assertEqual(side_of_ring(roots, ring, (((0, 1), 1), nought)), 0)
        self.assertEqual(side_of_ring(roots, ring, (nought, ((0, -1), 1))), 0)
        self.assertEqual(side_of_ring(roots, ring, (((99, 0), 70), nought)), 1)
        self.assertEqual(side_of_ring(roots, ring, (nought, ((41, 0), 29))), -1)


class WhatIsHandedIn(unittest.TestCase):
    def test_it_stays(self):
        roots = ((2,),)
        one, other = (((1, 1), 2), ((0, 1), 1)), (((3, 0), 1), ((0, -1), 1))
        kept = copy.deepcopy((roots, one, other))
        for _ in range(2):
            line, ring = line_of(roots, one, other), ring_through(roots, one, other)
            side_of_line(roots, line, one), side_of_ring(roots, ring, one), far(roots, one, other)
        self.assertEqual((roots, one, other), kept)


if __name__ == "__main__":
    unittest.main()
