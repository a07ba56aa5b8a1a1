"""[3], [22], [23], [24]: meets of lines and rings."""

import copy
import itertools
import unittest

from compasshall.errors import NoMeet, NoRoom
from compasshall.meets import meet_of_lines, meets_of_line, meets_of_rings
from compasshall.overs import over
from compasshall.places import line_of, ring_through, side_of_line, side_of_ring
from compasshall.scaffolds import is_scaffold
from compasshall.squares import root
from compasshall.sums import against, lifted, minus, plus, times
from handy import (ALL, GREAT, NONE, ONE_ROOT, THREE_ROOTS, TWO_ROOTS, Looks, far_by_hand, fraction, left_of_line, less,
                   numbers_over, point, points_over, product_of, sign_of, sum_of, turn, whole)


def raised(thing, many):
    return tuple(lifted(number, many) for number in thing)


def whole_line(roots, a, b, c):
    return (whole(roots, a), whole(roots, b), whole(roots, c))


def shown(roots, line, ring):
    """w of [23], reckoned in the second way."""
    n = sum_of(product_of(roots, line[0], line[0]), product_of(roots, line[1], line[1]))
    h = against(left_of_line(roots, line, ring))
    return less(product_of(roots, ring[2], n), product_of(roots, h, h))


def between_rings(roots, ring, other):
    """The line of [24]."""
    e, f = minus(other[0], ring[0]), minus(other[1], ring[1])
    by = f if not any(e[0]) else e
    if sign_of(roots, by) < 0:
        by = against(by)
    c = minus(ring[2], other[2])
    for sign, number in [(1, other[0]), (1, other[1]), (-1, ring[0]), (-1, ring[1])]:
        square = product_of(roots, number, number)
        c = sum_of(c, square if sign == 1 else against(square))
    return (over(roots, e, by), over(roots, f, by), over(roots, c, plus(by, by)))


def mirrored(roots, place, one, other):
    """The place on the other side of the line through two points."""
    a, b, c = line_of(roots, one, other)
    n = plus(times(roots, a, a), times(roots, b, b))
    twice = over(roots, times(roots, whole(roots, 2), left_of_line(roots, (a, b, c), place)), n)
    return (minus(place[0], times(roots, twice, a)), minus(place[1], times(roots, twice, b)))


def turned_about(roots, place, middle):
    """The place turned about the middle by the corner of a triangle with the sides 3, 4 and 5."""
    e, f = minus(place[0], middle[0]), minus(place[1], middle[1])
    three, four = fraction(roots, 3, 5), fraction(roots, 4, 5)
    x = minus(times(roots, three, e), times(roots, four, f))
    y = plus(times(roots, four, e), times(roots, three, f))
    return (plus(middle[0], x), plus(middle[1], y))


class Meeting(Looks, unittest.TestCase):
    def assert_points(self, roots, told):
        self.assertIs(type(told), list)
        for place in told:
            self.assertIs(type(place), tuple)
            self.assertEqual(len(place), 2)
            for number in place:
                self.assert_number(roots, number)

    def assert_grown(self, roots, wide, w):
        """The scaffold got a root just where w is no square, and just that of 18."""
        if root(roots, w) is None:
            self.assertEqual(wide, roots + (tuple(top * w[1] for top in w[0]),))
        else:
            self.assertEqual(wide, roots)
        self.assertTrue(is_scaffold(wide))

    def assert_meets(self, roots, line, ring, told):
        """All of 23, for a line and a ring that meet."""
        self.assertIs(type(told), tuple)
        wide, places = told
        w = shown(roots, line, ring)
        self.assert_grown(roots, wide, w)
        self.assert_points(wide, places)
        self.assertEqual(len(places), 1 if not any(w[0]) else 2)
        high_line, high_ring = raised(line, len(wide)), raised(ring, len(wide))
        for place in places:
            self.assertEqual(left_of_line(wide, high_line, place), whole(wide, 0))
            self.assertEqual(far_by_hand(wide, high_ring, place), high_ring[2])
        if len(places) == 2:
            e, f = less(places[1][0], places[0][0]), less(places[1][1], places[0][1])
            along = less(product_of(wide, e, high_line[1]), product_of(wide, f, high_line[0]))
            self.assertEqual(sign_of(wide, along), 1)


class Lines(Meeting):
    def test_ordinary_lines(self):
        x_axis, y_axis = whole_line((), 0, 1, 0), whole_line((), 1, 0, 0)
        self.assertEqual(meet_of_lines((), x_axis, y_axis), point((), 0, 0))
        self.assertEqual(meet_of_lines((), y_axis, x_axis), point((), 0, 0))
        self.assertEqual(meet_of_lines((), whole_line((), 1, 1, 3), whole_line((), 1, -1, 1)), point((), 2, 1))
        told = meet_of_lines((), whole_line((), 2, 3, 1), whole_line((), 5, 7, 2))
        self.assertEqual(told, point((), -1, 1))
        told = meet_of_lines((), whole_line((), 0, 2, 3), whole_line((), -4, 0, 3))
        self.assertEqual(told, (((-3,), 4), ((3,), 2)))

    def test_over_each_scaffold(self):
        for roots in ALL:
            given = numbers_over(roots, 140, 9)
            lines = list(zip(given, given[3:], given[6:]))
            one, other, third, fourth = points_over(roots, 141, 4)
            lines.extend([line_of(roots, one, other), line_of(roots, third, fourth)])
            for line, second in itertools.permutations(lines, 2):
                told = meet_of_lines(roots, line, second)
                self.assert_points(roots, [told])
                self.assertIs(type(told), tuple)
                self.assertEqual(left_of_line(roots, line, told), whole(roots, 0))
                self.assertEqual(left_of_line(roots, second, told), whole(roots, 0))
                self.assertEqual(meet_of_lines(roots, second, line), told)

    def test_lines_through_one_point_meet_there(self):
        for roots in ALL:
            for one, other, third in itertools.permutations(points_over(roots, 142, 3)):
                if any(turn(roots, one, other, third)[0]):
                    told = meet_of_lines(roots, line_of(roots, one, other), line_of(roots, third, one))
                    self.assertEqual(told, one)

    def refused_with_nought(self, roots, line, other):
        refusal = self.assert_refused(NoMeet, meet_of_lines, roots, line, other)
        self.assertEqual(refusal.number, whole(roots, 0))
        self.assert_number(roots, refusal.number)

    def test_alongside_they_are_refused(self):
        for roots in ALL:
            one, other = points_over(roots, 143, 2)
            a, b, c = line_of(roots, one, other)
            beside = (a, b, plus(c, whole(roots, 1)))
            thrice = tuple(product_of(roots, number, whole(roots, -3)) for number in beside)
            for line, second in itertools.permutations([(a, b, c), beside, thrice], 2):
                self.refused_with_nought(roots, line, second)
        self.refused_with_nought((), whole_line((), 0, 1, 0), whole_line((), 0, -1, 5))
        self.refused_with_nought((), whole_line((), 1, 0, 0), whole_line((), 3, 0, 5))
        line = (((0, 1), 1), ((2, 0), 1), ((1, 0), 1))
        self.refused_with_nought(((2,),), line, (((1, 0), 1), ((0, 1), 1), ((0, 0), 1)))

    def test_the_same_line_twice_is_refused(self):
        for roots in ALL:
            one, other = points_over(roots, 144, 2)
            line = line_of(roots, one, other)
            self.refused_with_nought(roots, line, line)
            self.refused_with_nought(roots, line, line_of(roots, other, one))
            self.refused_with_nought(roots, line, tuple(product_of(roots, number, whole(roots, 5)) for number in line))

    def test_lines_that_are_nearly_alongside(self):
        roots = ((2,),)
        line = (((0, 70), 1), ((1, 0), 1), ((0, 0), 1))
        other = (((99, 0), 1), ((1, 0), 1), ((1, 0), 1))
        told = meet_of_lines(roots, line, other)
        self.assertEqual(told[0], over(roots, whole(roots, 1), ((99, -70), 1)))


class LineAndRing(Meeting):
    def test_two_meets_as_the_line_goes(self):
        ring = (((0,), 1), ((0,), 1), ((25,), 1))
        told = [
            ((0, 1, 0), [(-5, 0), (5, 0)]), ((0, -1, 0), [(5, 0), (-5, 0)]),
            ((1, 0, 0), [(0, 5), (0, -5)]), ((-1, 0, 0), [(0, -5), (0, 5)]),
            ((0, 1, 3), [(-4, 3), (4, 3)]), ((0, -1, -3), [(4, 3), (-4, 3)]),
            ((1, 0, 3), [(3, 4), (3, -4)]), ((1, 1, 7), [(3, 4), (4, 3)]), ((-1, -1, -7), [(4, 3), (3, 4)]),
            ((-1, 1, 1), [(-4, -3), (3, 4)]), ((1, -1, -1), [(3, 4), (-4, -3)]),
        ]
        for (a, b, c), places in told:
            for factor in (1, 2, 7):
                line = whole_line((), a * factor, b * factor, c * factor)
                wanted = [point((), x, y) for x, y in places]
                self.assertEqual(meets_of_line((), line, ring), ((), wanted))

    def test_one_meet(self):
        ring = (((0,), 1), ((0,), 1), ((25,), 1))
        self.assertEqual(meets_of_line((), whole_line((), 0, 1, 5), ring), ((), [point((), 0, 5)]))
        self.assertEqual(meets_of_line((), whole_line((), -2, 0, 10), ring), ((), [point((), -5, 0)]))
        self.assertEqual(meets_of_line((), whole_line((), 3, 4, 25), ring), ((), [point((), 3, 4)]))

    def test_one_meet_over_each_scaffold(self):
        for roots in ALL:
            about, through = points_over(roots, 150, 2)
            e, f = minus(through[0], about[0]), minus(through[1], about[1])
            line = line_of(roots, through, (minus(through[0], f), plus(through[1], e)))
            ring = ring_through(roots, about, through)
            self.assertEqual(meets_of_line(roots, line, ring), (roots, [through]))
            self.assert_meets(roots, line, ring, meets_of_line(roots, line, ring))

    def refused_rightly(self, roots, line, ring):
        refusal = self.assert_refused(NoMeet, meets_of_line, roots, line, ring)
        self.assertEqual(refusal.number, shown(roots, line, ring))
        self.assertEqual(sign_of(roots, refusal.number), -1)
        self.assert_number(roots, refusal.number)

    def test_no_meet(self):
        ring = (((0,), 1), ((0,), 1), ((25,), 1))
        for a, b, c, w in [(0, 1, 6, -11), (0, 2, 12, -44), (1, 1, 8, -14)]:
            refusal = self.assert_refused(NoMeet, meets_of_line, (), whole_line((), a, b, c), ring)
            self.assertEqual(refusal.number, ((w,), 1))
        for roots in ALL:
            ring = point(roots, 1, 2) + (whole(roots, 3),)
            self.refused_rightly(roots, whole_line(roots, 0, 1, 4), ring)
            self.refused_rightly(roots, whole_line(roots, 3, -2, 9), ring)

    def test_a_line_that_just_misses_and_one_that_just_meets(self):
        roots = ((2,),)
        ring = point(roots, 0, 0) + (whole(roots, 1),)
        diagonal = (whole(roots, 1), whole(roots, 1))
        self.assertEqual(len(meets_of_line(roots, diagonal + (((0, 1), 1),), ring)[1]), 1)
        self.refused_rightly(roots, diagonal + (((99, 0), 70),), ring)
        wide, places = meets_of_line(roots, diagonal + (((41, 0), 29),), ring)
        self.assertEqual(len(places), 2)

    def test_over_each_scaffold(self):
        seen = {}
        for roots in ALL:
            given = numbers_over(roots, 151, 12)
            lines = list(zip(given, given[4:], given[8:]))
            one, other, about, through = points_over(roots, 152, 4)
            lines.append(line_of(roots, one, other))
            for line in lines:
                for s in [far_by_hand(roots, about, through), whole(roots, 1), whole(roots, 500)]:
                    self.met_or_refused(roots, line, about + (s,), seen)
        for many in (0, 1, 2):
            self.assertIn((many, many + 1), seen)
        for what in ("below", "no room"):
            self.assertIn((3, what), seen)

    def met_or_refused(self, roots, line, ring, seen):
        w = shown(roots, line, ring)
        if sign_of(roots, w) < 0:
            self.refused_rightly(roots, line, ring)
            seen[(len(roots), "below")] = True
        elif len(roots) == 3 and root(roots, w) is None:
            self.assert_refused(NoRoom, meets_of_line, roots, line, ring)
            seen[(len(roots), "no room")] = True
        else:
            told = meets_of_line(roots, line, ring)
            self.assert_meets(roots, line, ring, told)
            seen[(len(roots), len(told[0]))] = True

    def test_meets_that_need_no_root_more(self):
        for roots in ALL:
            for about, through in itertools.permutations(points_over(roots, 153, 3), 2):
                second = turned_about(roots, through, about)
                ring, line = ring_through(roots, about, through), line_of(roots, through, second)
                self.assertEqual(meets_of_line(roots, line, ring), (roots, [through, second]))
                back = line_of(roots, second, through)
                self.assertEqual(meets_of_line(roots, back, ring), (roots, [second, through]))

    def test_meets_that_need_a_root_more(self):
        ring = (((0,), 1), ((0,), 1), ((3,), 1))
        self.assertEqual(meets_of_line((), whole_line((), 0, 1, 0), ring),
                         (((3,),), [(((0, -1), 1), ((0, 0), 1)), (((0, 1), 1), ((0, 0), 1))]))
        self.assertEqual(meets_of_line((), whole_line((), 0, 2, 2), ring),
                         (((8,),), [(((0, -1), 2), ((1, 0), 1)), (((0, 1), 2), ((1, 0), 1))]))
        roots = ((3,),)
        ring = raised(ring, 1)
        self.assertEqual(meets_of_line(roots, whole_line(roots, 0, 1, 0), ring),
                         (roots, [(((0, -1), 1), ((0, 0), 1)), (((0, 1), 1), ((0, 0), 1))]))
        self.assertEqual(meets_of_line(roots, whole_line(roots, 0, 1, 1), ring)[0], ((3,), (2, 0)))

    def test_no_room(self):
        for roots in THREE_ROOTS:
            ring = point(roots, 0, 0) + (whole(roots, 17),)
            self.assert_refused(NoRoom, meets_of_line, roots, whole_line(roots, 0, 1, 0), ring)
            self.refused_rightly(roots, whole_line(roots, 0, 1, 5), ring)
            self.assertEqual(len(meets_of_line(roots, whole_line(roots, 0, 1, 1), ring)[1]), 2)

    def test_the_list_is_a_new_one_each_time(self):
        ring = (((0,), 1), ((0,), 1), ((25,), 1))
        line = whole_line((), 0, 1, 0)
        told = meets_of_line((), line, ring)[1]
        kept = list(told)
        told.clear()
        self.assertEqual(meets_of_line((), line, ring)[1], kept)


class TwoRings(Meeting):
    def test_ordinary_rings(self):
        ring = (((0,), 1), ((0,), 1), ((25,), 1))
        told = [
            ((6, 0, 25), [(3, 4), (3, -4)]), ((-6, 0, 25), [(-3, -4), (-3, 4)]),
            ((0, 6, 25), [(-4, 3), (4, 3)]), ((0, -6, 25), [(4, -3), (-4, -3)]),
            ((8, 0, 25), [(4, 3), (4, -3)]), ((7, 7, 25), [(3, 4), (4, 3)]), ((-7, -7, 25), [(-3, -4), (-4, -3)]),
            ((9, 0, 52), [(3, 4), (3, -4)]), ((0, -9, 52), [(4, -3), (-4, -3)]),
        ]
        for (u, v, s), places in told:
            other = (((u,), 1), ((v,), 1), ((s,), 1))
            self.assertEqual(meets_of_rings((), ring, other), ((), [point((), x, y) for x, y in places]))
            back = [point((), x, y) for x, y in reversed(places)]
            self.assertEqual(meets_of_rings((), other, ring), ((), back))

    def test_one_meet(self):
        ring = (((0,), 1), ((0,), 1), ((25,), 1))
        for (u, v, s), place in [((8, 0, 9), (5, 0)), ((0, -8, 9), (0, -5)), ((2, 0, 9), (5, 0)), ((0, 2, 9), (0, 5)),
                                 ((6, 8, 25), (3, 4)), ((-3, -4, 100), (3, 4))]:
            other = (((u,), 1), ((v,), 1), ((s,), 1))
            self.assertEqual(meets_of_rings((), ring, other), ((), [point((), *place)]))
            self.assertEqual(meets_of_rings((), other, ring), ((), [point((), *place)]))

    def refused_rightly(self, roots, ring, other):
        refusal = self.assert_refused(NoMeet, meets_of_rings, roots, ring, other)
        self.assertEqual(refusal.number, shown(roots, between_rings(roots, ring, other), ring))
        self.assertEqual(sign_of(roots, refusal.number), -1)
        self.assert_number(roots, refusal.number)

    def test_no_meet(self):
        ring = (((0,), 1), ((0,), 1), ((25,), 1))
        refusal = self.assert_refused(NoMeet, meets_of_rings, (), ring, (((11,), 1), ((0,), 1), ((25,), 1)))
        self.assertEqual(refusal.number, ((-21,), 4))
        refusal = self.assert_refused(NoMeet, meets_of_rings, (), ring, (((0,), 1), ((-11,), 1), ((25,), 1)))
        self.assertEqual(refusal.number, ((-21,), 4))
        refusal = self.assert_refused(NoMeet, meets_of_rings, (), ring, (((8,), 1), ((8,), 1), ((25,), 1)))
        self.assertEqual(refusal.number, ((-14,), 1))
        for roots in ALL:
            ring = point(roots, 1, 2) + (whole(roots, 3),)
            for u, v, s in [(5, 2, 3), (1, 3, 100), (1, -2, 1), (-3, -3, 2), (2, 2, 8)]:
                self.refused_rightly(roots, ring, point(roots, u, v) + (whole(roots, s),))

    def test_two_rings_about_one_point_are_refused_with_nought(self):
        for roots in ALL:
            about, through = points_over(roots, 160, 2)
            ring = ring_through(roots, about, through)
            for s in [whole(roots, 1), whole(roots, 1000), ring[2]]:
                for one, other in [(ring, about + (s,)), (about + (s,), ring)]:
                    refusal = self.assert_refused(NoMeet, meets_of_rings, roots, one, other)
                    self.assertEqual(refusal.number, whole(roots, 0))
                    self.assert_number(roots, refusal.number)

    def test_the_same_ring_twice_is_refused_with_nought(self):
        for roots in ALL:
            about, through = points_over(roots, 161, 2)
            ring = ring_through(roots, about, through)
            refusal = self.assert_refused(NoMeet, meets_of_rings, roots, ring, ring)
            self.assertEqual(refusal.number, whole(roots, 0))

    def assert_ring_meets(self, roots, ring, other, told):
        """All of 24, for two rings that meet."""
        line = between_rings(roots, ring, other)
        self.assert_meets(roots, line, ring, told)
        wide, places = told
        high_ring, high_other = raised(ring, len(wide)), raised(other, len(wide))
        for place in places:
            self.assertEqual(far_by_hand(wide, high_ring, place), high_ring[2])
            self.assertEqual(far_by_hand(wide, high_other, place), high_other[2])
        if len(places) == 2:
            self.assertEqual(sign_of(wide, turn(wide, high_ring[:2], high_other[:2], places[0])), 1)
            self.assertEqual(sign_of(wide, turn(wide, high_ring[:2], high_other[:2], places[1])), -1)

    def test_over_each_scaffold(self):
        seen = {}
        for roots in ALL:
            given = points_over(roots, 162, 3)
            for about, second in itertools.permutations(given, 2):
                apart = far_by_hand(roots, about, second)
                for s, s2 in [(apart, apart), (whole(roots, 1), whole(roots, 2)), (whole(roots, 400), apart)]:
                    self.met_or_refused(roots, about + (s,), second + (s2,), seen)
        for many in (0, 1, 2):
            self.assertIn((many, many + 1), seen)
        for what in ("below", "no room"):
            self.assertIn((3, what), seen)

    def met_or_refused(self, roots, ring, other, seen):
        w = shown(roots, between_rings(roots, ring, other), ring)
        if sign_of(roots, w) < 0:
            self.refused_rightly(roots, ring, other)
            seen[(len(roots), "below")] = True
        elif len(roots) == 3 and root(roots, w) is None:
            self.assert_refused(NoRoom, meets_of_rings, roots, ring, other)
            seen[(len(roots), "no room")] = True
        else:
            told = meets_of_rings(roots, ring, other)
            self.assert_ring_meets(roots, ring, other, told)
            seen[(len(roots), len(told[0]))] = True

    def test_meets_that_need_no_root_more(self):
        for roots in ALL:
            one, other, third = points_over(roots, 163, 3)
            self.assertNotEqual(turn(roots, one, other, third), whole(roots, 0))
            for about, second, through in itertools.permutations([one, other, third]):
                mirror = mirrored(roots, through, about, second)
                at_left = sign_of(roots, turn(roots, about, second, through)) > 0
                wanted = [through, mirror] if at_left else [mirror, through]
                told = meets_of_rings(roots, ring_through(roots, about, through), ring_through(roots, second, through))
                self.assertEqual(told, (roots, wanted))

    def test_points_that_stand_upright_above_one_another(self):
        for roots in [NONE] + ONE_ROOT[:2] + TWO_ROOTS[:2]:
            for up in (3, -3):
                ring = point(roots, 2, 1) + (whole(roots, 17),)
                other = point(roots, 2, 1 + up) + (whole(roots, 15),)
                told = meets_of_rings(roots, ring, other)
                self.assert_ring_meets(roots, ring, other, told)
                first, second = told[1]
                x_first, x_second = first[0], second[0]
                self.assertEqual(sign_of(told[0], minus(x_second, x_first)), 1 if up > 0 else -1)

    def test_points_that_stand_level_beside_one_another(self):
        for roots in [NONE] + ONE_ROOT[:2] + TWO_ROOTS[:2]:
            for aside in (3, -3):
                ring = point(roots, 2, 1) + (whole(roots, 17),)
                other = point(roots, 2 + aside, 1) + (whole(roots, 15),)
                told = meets_of_rings(roots, ring, other)
                self.assert_ring_meets(roots, ring, other, told)
                first, second = told[1]
                self.assertEqual(sign_of(told[0], minus(first[1], second[1])), 1 if aside > 0 else -1)

    def test_the_sixth_of_a_round(self):
        one, other = point((), 0, 0), point((), 1, 0)
        wide, places = meets_of_rings((), ring_through((), one, other), ring_through((), other, one))
        self.assertEqual(wide, ((12,),))
        self.assertEqual(places, [(((1, 0), 2), ((0, 1), 4)), (((1, 0), 2), ((0, -1), 4))])

    def test_no_room(self):
        for roots in THREE_ROOTS:
            ring = point(roots, 0, 0) + (whole(roots, 21),)
            other = point(roots, 4, 0) + (whole(roots, 21),)
            self.assert_refused(NoRoom, meets_of_rings, roots, ring, other)
            self.refused_rightly(roots, ring, point(roots, 40, 0) + (whole(roots, 21),))
            ring = point(roots, 0, 0) + (whole(roots, 25),)
            told = meets_of_rings(roots, ring, point(roots, 6, 0) + (whole(roots, 25),))
            self.assertEqual(told, (roots, [point(roots, 3, 4), point(roots, 3, -4)]))

    def test_the_list_is_a_new_one_each_time(self):
        ring, other = (((0,), 1), ((0,), 1), ((25,), 1)), (((6,), 1), ((0,), 1), ((25,), 1))
        told = meets_of_rings((), ring, other)[1]
        kept = list(told)
        told.clear()
        self.assertEqual(meets_of_rings((), ring, other)[1], kept)


class StepByStep(Meeting):
    def test_roots_are_put_in_one_by_one_and_no_more_than_needed(self):
        one, other = point((), 0, 0), point((), 1, 0)
        roots, places = meets_of_rings((), ring_through((), one, other), ring_through((), other, one))
        one, other, top = raised(one, 1), raised(other, 1), places[0]
        ring = ring_through(roots, top, one)
        wide, again = meets_of_rings(roots, ring, ring_through(roots, one, other))
        self.assertEqual(wide, roots)
        self.assertIn(other, again)
        wide, steps = meets_of_line(roots, line_of(roots, top, (whole(roots, 3), whole(roots, 1))), ring)
        self.assertEqual(len(wide), 2)
        for place in steps:
            self.assertEqual(side_of_ring(wide, raised(ring, 2), place), 0)
        high_top = raised(top, 2)
        last = ring_through(wide, steps[0], raised(other, 2))
        higher, ends = meets_of_line(wide, line_of(wide, high_top, steps[0]), last)
        self.assertEqual(len(higher), 3)
        for place in ends:
            self.assertEqual(side_of_ring(higher, raised(last, 3), place), 0)
            self.assertEqual(side_of_line(higher, raised(line_of(wide, high_top, steps[0]), 3), place), 0)

    def test_great_numbers(self):
        ring = (((GREAT,), 3), ((-GREAT,), 7), ((GREAT ** 2 + 1,), 1))
        other = (((0,), 1), ((1,), GREAT), ((GREAT ** 2,), 1))
        self.assertEqual(sign_of((), shown((), between_rings((), ring, other), ring)), 1)
        wide, places = meets_of_rings((), ring, other)
        self.assert_meets((), between_rings((), ring, other), ring, (wide, places))


class WhatIsHandedIn(unittest.TestCase):
    def test_it_stays(self):
        roots = ((2,),)
        one, other = (((1, 1), 2), ((0, 1), 1)), (((3, 0), 1), ((0, -1), 1))
        line, ring = line_of(roots, one, other), ring_through(roots, one, other)
        second, crossing = ring_through(roots, other, one), line_of(roots, one, point(roots, 9, 9))
        kept = copy.deepcopy((roots, line, ring, second, crossing))
        for _ in range(2):
            meet_of_lines(roots, line, crossing), meets_of_line(roots, line, ring), meets_of_rings(roots, ring, second)
        self.assertEqual((roots, line, ring, second, crossing), kept)


if __name__ == "__main__":
    unittest.main()
