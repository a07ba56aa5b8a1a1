"""[6], [17], [18]: scaffolds looked at and grown."""

import copy
import itertools
import math
import unittest

from compasshall.errors import Below, NoRoom
from compasshall.scaffolds import grown, is_scaffold
from compasshall.squares import root
from compasshall.sums import against, lifted, plus, times
from handy import (ALL, GREAT, NONE, ONE_ROOT, THREE_ROOTS, TWO_ROOTS, WITH_ROOTS, Looks, Thorn, edges_over, fraction,
                   last_root, numbers_over, product_of, sign_of, whole)


class IsScaffold(unittest.TestCase):
    def looked_at(self, thing, wanted):
        with self.subTest(thing=thing):
            self.assertIs(is_scaffold(thing), wanted)

    def test_scaffolds_of_none_to_three_roots(self):
        for roots in ALL:
            self.looked_at(roots, True)

    def test_their_first_roots(self):
        for roots in ALL:
            for many in range(len(roots) + 1):
                self.looked_at(roots[:many], True)

    def test_one_root_of_each_small_number(self):
        for n in range(-20, 200):
            self.looked_at(((n,),), n > 0 and math.isqrt(n) ** 2 != n)
        self.looked_at(((GREAT ** 2,),), False)
        self.looked_at(((GREAT ** 2 + 1,),), True)
        self.looked_at(((-GREAT ** 2 - 1,),), False)

    def test_a_number_below_nought_behind_roots(self):
        for under in [(-1, 0), (-3, 0), (1, -1), (-3, 2), (0, -1), (-10, 7)]:
            self.looked_at(((2,), under), False)
        self.looked_at(((2,), (10, -7)), True)
        for under in [(-1, 0, 0, 0), (0, 0, -1, 0), (1, 1, -1, -1), (0, -5, 1, 1)]:
            self.looked_at(((2,), (3, 0), under), False)

    def test_nought_behind_roots(self):
        for roots in [NONE] + ONE_ROOT + TWO_ROOTS:
            self.looked_at(roots + ((0,) * 2 ** len(roots),), False)

    def test_squares_behind_roots(self):
        for under in [(1, 0), (4, 0), (2, 0), (8, 0), (3, 2), (3, -2), (99, -70), (6, 4), (18, 0)]:
            self.looked_at(((2,), under), False)
        for under in [(2, 0, 0, 0), (3, 0, 0, 0), (6, 0, 0, 0), (9, 0, 0, 0), (5, 0, 0, 2), (5, 0, 0, -2),
                      (4, 0, 2, 0)]:
            self.looked_at(((2,), (3, 0), under), False)

    def test_a_square_of_a_whole_sum_over_the_roots_ahead(self):
        for roots in [NONE] + ONE_ROOT + TWO_ROOTS:
            for x in numbers_over(roots, 90, 6, 9, 1):
                self.looked_at(roots + (product_of(roots, x, x)[0],), False)

    def test_all_second_roots_with_small_tops(self):
        squares = {}
        for c, d in itertools.product(range(-4, 5), repeat=2):
            squares[(c * c + 2 * d * d, 2 * c * d)] = True
        for under in itertools.product(range(-6, 7), repeat=2):
            good = sign_of(((2,),), (under, 1)) > 0 and under not in squares
            self.looked_at(((2,), under), good)

    def test_a_fault_among_the_first_roots(self):
        self.looked_at(((4,), (2, 1)), False)
        self.looked_at(((1,), (3, 0)), False)
        self.looked_at(((-2,), (3, 0)), False)
        self.looked_at(((0,), (3, 0)), False)
        self.looked_at(((2,), (2, 0), (5, 0, 0, 0)), False)
        self.looked_at(((4,), (3, 0), (5, 0, 0, 0)), False)
        self.looked_at(((2, 0), (3, 0), (5, 0, 0, 0)), False)

    def test_the_same_root_twice(self):
        self.looked_at(((2,), (2, 0)), False)
        self.looked_at(((2,), (3, 0), (3, 0, 0, 0)), False)
        self.looked_at(((2,), (3, 0), (0, 1, 0, 0)), True)

    def test_lists_in_place_of_tuples(self):
        for thing in [[], [(2,)], ([2],), ((2,), [0, 3]), [(2,), (0, 3)], ([2], (0, 3)), ((2,), (3, 0), [5, 0, 0, 0])]:
            self.looked_at(thing, False)

    def test_truths_and_other_things_in_place_of_whole_numbers(self):
        for thing in [((True,),), ((2,), (True, 1)), ((2,), (2, True)), ((2,), (False, 3)), ((2,), (3, False)),
                      ((2,), (3, 0), (5, False, 0, 0)), (("2",),), ((None,),), (((2,),),), ((b"2",),), ((Thorn(),),),
                      ((2,), (Thorn(), Thorn())), ((2,), (3, "0")), ((2,), (3, 0), (5, 0, 0, None))]:
            self.looked_at(thing, False)

    def test_tuples_too_long_or_too_short(self):
        for thing in [((),), ((2, 0),), ((2, 3),), ((2,), (3,)), ((2,), ()), ((2,), (3, 0, 0)), ((2,), (3, 0, 0, 0)),
                      ((2,), (3, 0), (5,)), ((2,), (3, 0), (5, 0)), ((2,), (3, 0), (5, 0, 0)), ((2,), (3, 0), ()),
                      ((2,), (3, 0), (5, 0, 0, 0, 0)), ((2,), (3, 0), (5,) + (0,) * 7), ((0, 3), (2,))]:
            self.looked_at(thing, False)

    def test_four_roots(self):
        self.looked_at(((2,), (3, 0), (5, 0, 0, 0), (7, 0, 0, 0, 0, 0, 0, 0)), False)
        self.looked_at(((2,), (3, 0), (5, 0, 0, 0), ()), False)
        self.looked_at(THREE_ROOTS[1] + ((7,) + (0,) * 7,), False)

    def test_things_that_are_no_tuples_of_tuples(self):
        for thing in [None, True, False, 0, 1, 2, -1, GREAT, "", "()", "((2,),)", b"", {}, {(2,): True}, set(),
                      object(), Thorn(), tuple, range(3), (2,), (2, 3), ("",), ("a",), (None,), (Thorn(),), ({},),
                      ((2,), None), ((2,), 3), ((2,), "ab"), ((2,), Thorn()), (range(2, 3),),
                      ((2,), (3, 0), Thorn())]:
            told = is_scaffold(thing)
            self.assertIs(told, False)


class Grown(Looks, unittest.TestCase):
    def test_by_a_square_it_stays(self):
        for roots in ALL:
            for x in edges_over(roots) + numbers_over(roots, 91, 5):
                square = times(roots, x, x)
                told = grown(roots, square)
                self.assertIs(type(told), tuple)
                self.assertEqual(told, (roots, against(x) if sign_of(roots, x) < 0 else x))
                self.assertEqual(told[1], root(roots, square))

    def test_ordinary_numbers(self):
        self.assertEqual(grown((), ((2,), 1)), (((2,),), ((0, 1), 1)))
        self.assertEqual(grown((), ((1,), 2)), (((2,),), ((0, 1), 2)))
        self.assertEqual(grown((), ((3,), 4)), (((12,),), ((0, 1), 4)))
        self.assertEqual(grown((), ((9,), 4)), ((), ((3,), 2)))
        self.assertEqual(grown((), ((0,), 1)), ((), ((0,), 1)))
        self.assertEqual(grown(((2,),), ((2, 0), 1)), (((2,),), ((0, 1), 1)))
        self.assertEqual(grown(((2,),), ((2, 1), 3)), (((2,), (6, 3)), ((0, 0, 1, 0), 3)))
        self.assertEqual(grown(((2,),), ((0, 3), 1)), (((2,), (0, 3)), ((0, 0, 1, 0), 1)))
        self.assertEqual(grown(((2,), (0, 3)), ((0, 0, 1, 0), 2)),
                         (((2,), (0, 3), (0, 0, 2, 0)), ((0, 0, 0, 0, 1, 0, 0, 0), 2)))

    def grown_rightly(self, roots, x):
        wide, told = grown(roots, x)
        places = 2 ** len(roots)
        self.assertEqual(wide, roots + (tuple(top * x[1] for top in x[0]),))
        self.assertEqual(told, ((0,) * places + (1,) + (0,) * (places - 1), x[1]))
        self.assertTrue(is_scaffold(wide))
        self.assert_number(wide, told)
        self.assertEqual(sign_of(wide, told), 1)
        self.assertEqual(product_of(wide, told, told), lifted(x, len(wide)))

    def test_by_a_number_that_is_no_square(self):
        for roots in [NONE] + ONE_ROOT + TWO_ROOTS:
            self.grown_rightly(roots, whole(roots, 17))
            self.grown_rightly(roots, fraction(roots, 17, 12))
            for x in edges_over(roots) + numbers_over(roots, 92, 10) + numbers_over(roots, 93, 2, GREAT, GREAT):
                if sign_of(roots, x) > 0 and root(roots, x) is None:
                    self.grown_rightly(roots, x)

    def test_the_square_of_the_told_root_is_the_number(self):
        for roots in ALL:
            for x in edges_over(roots) + numbers_over(roots, 94, 6):
                square = times(roots, x, x)
                wide, told = grown(roots, square)
                self.assertEqual(times(wide, told, told), square)
                self.assertGreaterEqual(sign_of(wide, told), 0)

    def test_grown_once_it_stays_the_next_time(self):
        for roots in [NONE] + ONE_ROOT + TWO_ROOTS:
            for x in numbers_over(roots, 95, 6):
                if sign_of(roots, x) >= 0:
                    wide, told = grown(roots, x)
                    self.assertEqual(grown(wide, lifted(x, len(wide))), (wide, told))

    def test_step_by_step_from_no_roots(self):
        roots = ()
        for n, many in [(4, 0), (2, 1), (8, 1), (3, 2), (6, 2), (24, 2), (5, 3), (30, 3), (10, 3)]:
            roots, told = grown(roots, whole(roots, n))
            self.assertEqual(len(roots), many)
            self.assertEqual(times(roots, told, told), whole(roots, n))
        self.assert_refused(NoRoom, grown, roots, whole(roots, 7))

    def test_below_nought_it_is_refused(self):
        for roots in ALL:
            for x in edges_over(roots) + numbers_over(roots, 96, 10) + [whole(roots, -1), whole(roots, -4)]:
                if sign_of(roots, x) < 0:
                    self.assert_refused(Below, grown, roots, x)

    def test_below_nought_ahead_of_no_room(self):
        for roots in THREE_ROOTS:
            self.assert_refused(Below, grown, roots, whole(roots, -17))
            self.assert_refused(Below, grown, roots, fraction(roots, -1, 4))
            self.assert_refused(Below, grown, roots, against(last_root(roots)))

    def test_without_room_it_is_refused(self):
        for roots in THREE_ROOTS:
            self.assert_refused(NoRoom, grown, roots, whole(roots, 17))
            for x in numbers_over(roots, 97, 10):
                if sign_of(roots, x) > 0 and root(roots, x) is None:
                    self.assert_refused(NoRoom, grown, roots, x)

    def test_with_three_roots_a_square_is_not_refused(self):
        for roots in THREE_ROOTS:
            self.assertEqual(grown(roots, whole(roots, 0)), (roots, whole(roots, 0)))
            self.assertEqual(grown(roots, (roots[0] + (0,) * 7, 1)), (roots, ((0, 1) + (0,) * 6, 1)))

    def test_what_is_handed_in_stays(self):
        roots, x = ((2,),), ((2, 1), 3)
        kept = copy.deepcopy((roots, x))
        self.assertEqual(grown(roots, x), grown(roots, x))
        self.assertEqual((roots, x), kept)

    def test_what_was_told_whatever_its_size(self):
        roots = ()
        x = ((10 ** 59 + 9,), 10 ** 59 + 7)
        for many in (1, 2, 3):
            roots, told = grown(roots, x)
            self.assertEqual(len(roots), many)
            self.assertEqual(times(roots, told, told), lifted(x, many))
            if many < 3:
                x = plus(told, whole(roots, 1))
        self.assertTrue(is_scaffold(roots))
        self.assertTrue(all(is_scaffold(wide) for wide in [roots[:1], roots[:2]]))


class Handy(unittest.TestCase):
    def test_there_are_scaffolds_of_each_number_of_roots(self):
        self.assertEqual({len(roots) for roots in WITH_ROOTS}, {1, 2, 3})


if __name__ == "__main__":
    unittest.main()
