"""[13] to [16]: roots of squares, and papers of numbers that are none."""

import copy
import itertools
import math
import unittest

from compasshall.squares import holds, paper, root
from compasshall.sums import against, lifted, times
from handy import (ALL, GREAT, NONE, ONE_ROOT, THREE_ROOTS, TWO_ROOTS, WITH_ROOTS, Looks, Thorn, edges_over, fraction,
                   joined, last_root, lowest, numbers_over, parted, parts_plus, parts_times, product_of, sign_of, whole)


def given_over(roots):
    return edges_over(roots) + numbers_over(roots, 70, 8)


def non_squares_over(roots):
    """Numbers below nought, and squares times a number that is none."""
    told = [whole(roots, -1), whole(roots, 17), fraction(roots, 17, 9), fraction(roots, -4, 9)]
    for x in edges_over(roots)[1:] + numbers_over(roots, 71, 6)[:6]:
        if any(x[0]):
            square = times(roots, x, x)
            told.append(against(square))
            told.append(times(roots, square, whole(roots, 17)))
            if len(roots) > 0:
                told.append(times(roots, square, last_root(roots[:1]) if len(roots) == 1 else whole(roots, 19)))
    return told


# A second way to look at a paper, by the words of [15] alone, over numbers parted into fractions.


def is_paper(roots, x, thing):
    if type(thing) is not tuple or not thing or type(thing[0]) is not str:
        return False
    if not roots:
        top, bottom = x[0][0], x[1]
        if thing == ("below",):
            return top < 0
        good = len(thing) == 2 and thing[0] == "between" and type(thing[1]) is int and thing[1] >= 0
        return good and thing[1] ** 2 < top * bottom < (thing[1] + 1) ** 2
    beneath, bit = roots[:-1], 2 ** (len(roots) - 1)
    a = {i: part for i, part in parted(x).items() if i < bit}
    b = {i - bit: part for i, part in parted(x).items() if i >= bit}
    under = parted((roots[-1], 1))

    def look(parts, inner):
        return is_paper(beneath, joined(parts, len(beneath)), inner)

    if not b:
        good = len(thing) == 3 and thing[0] == "both"
        return good and look(a, thing[1]) and look(parts_times(beneath, a, under), thing[2])
    behind = parts_times(beneath, parts_times(beneath, b, b), under)
    the_norm = parts_plus(parts_times(beneath, a, a), {i: -part for i, part in behind.items()})
    if thing[0] == "norm":
        return len(thing) == 2 and look(the_norm, thing[1])
    if thing[0] != "halves" or len(thing) != 4 or not is_told(beneath, thing[1]):
        return False
    n = parted(thing[1])
    if parts_times(beneath, n, n) != the_norm:
        return False
    half = {0: type(next(iter(b.values())))(1, 2)}
    more = parts_times(beneath, parts_plus(a, n), half)
    less = parts_times(beneath, parts_plus(a, {i: -part for i, part in n.items()}), half)
    return look(more, thing[2]) and look(less, thing[3])


def is_told(roots, thing):
    if type(thing) is not tuple or len(thing) != 2 or type(thing[0]) is not tuple or len(thing[0]) != 2 ** len(roots):
        return False
    if any(type(n) is not int for n in thing[0] + (thing[1],)) or thing[1] < 1:
        return False
    return math.gcd(thing[1], *thing[0]) == 1


def odd_things():
    endless = []
    endless.append(endless)
    deep = ()
    for _ in range(5000):
        deep = ("norm", deep)
    return [
        None, True, False, 0, 1, -1, GREAT, "", "below", "between", "norm", "both", "halves", (), [], {}, set(),
        b"below", object(), Thorn(), tuple, len, (None,), (0,), (1, 2), ((),), ((), ()), (("below",),), ("",),
        ("Below",), (b"below",),
        (Thorn(),), ("between", Thorn()), ("norm", Thorn()), ("both", Thorn(), Thorn()),
        ("halves", Thorn(), Thorn(), Thorn()), (Thorn(), 1), ["below"], ["between", 1], ("between", "1"),
        ("between", None), ("between", (1,)), ("between",), ("norm",), ("both",), ("halves",), endless, (endless,),
        ("norm", endless), ("halves", endless, endless, endless), deep, ("norm", ()), ("both", (), ()),
        ("halves", ((0,), 1), (), ()), ("halves", (), (), ()), ("halves", ((), 1), (), ()),
        ("halves", ((1,), 0), ("below",), ("below",)), ("halves", (Thorn(), 1), (), ()),
        ("halves", ((Thorn(),), 1), (), ()),
        ("halves", ((1,), Thorn()), (), ()), {"below": True}, frozenset(["below"]), range(3),
    ]


class Root(Looks, unittest.TestCase):
    def found(self, roots, x, y):
        """y is a root of x, of whatever sign."""
        with self.subTest(roots=roots, x=x):
            told = root(roots, x)
            self.assertEqual(told, against(y) if sign_of(roots, y) < 0 else y)
            self.assert_number(roots, told)
            self.assertIsNone(paper(roots, x))

    def test_fractions(self):
        told = [(0, 1, (0, 1)), (1, 1, (1, 1)), (4, 1, (2, 1)), (9, 4, (3, 2)), (1, 4, (1, 2)),
                (GREAT ** 2, 9, (GREAT, 3))]
        for top, bottom, (wanted, over_it) in told:
            self.assertEqual(root((), ((top,), bottom)), ((wanted,), over_it))
        for top, bottom in [(2, 1), (-1, 1), (-4, 9), (1, 2), (8, 9), (2, 9), (9, 2), (GREAT ** 2 + 1, 1),
                            (-GREAT ** 2, 1)]:
            self.assertIsNone(root((), ((top,), bottom)))

    def test_all_small_fractions(self):
        for top, bottom in itertools.product(range(-60, 150), range(1, 60)):
            if math.gcd(top, bottom) == 1:
                square = top >= 0 and math.isqrt(top) ** 2 == top and math.isqrt(bottom) ** 2 == bottom
                wanted = ((math.isqrt(top),), math.isqrt(bottom)) if square else None
                self.assertEqual(root((), ((top,), bottom)), wanted)

    def test_squares_over_each_scaffold(self):
        for roots in ALL:
            for x in given_over(roots) + numbers_over(roots, 72, 2, GREAT, GREAT):
                self.found(roots, product_of(roots, x, x), x)

    def test_squares_of_numbers_with_some_noughts(self):
        for roots in WITH_ROOTS:
            places = 2 ** len(roots)
            for many in (1, 2):
                for ones in itertools.combinations(range(places), many):
                    tops = [(-1) ** i * (i + 2) if i in ones else 0 for i in range(places)]
                    x = lowest(tops, 3)
                    self.found(roots, product_of(roots, x, x), x)

    def test_nought(self):
        for roots in ALL:
            self.assertEqual(root(roots, whole(roots, 0)), whole(roots, 0))

    def test_the_front_alone_a_square_beneath(self):
        for roots in WITH_ROOTS:
            for x in given_over(roots[:-1]):
                self.found(roots, lifted(times(roots[:-1], x, x), len(roots)), lifted(x, len(roots)))

    def test_the_front_times_the_number_under_the_last_root_a_square_beneath(self):
        self.assertEqual(root(((2,),), ((2, 0), 1)), ((0, 1), 1))
        self.assertEqual(root(((2,),), ((1, 0), 2)), ((0, 1), 2))
        self.assertEqual(root(((2,),), ((18, 0), 25)), ((0, 3), 5))
        self.assertEqual(root(((12,),), ((3, 0), 1)), ((0, 1), 2))
        self.assertEqual(root(((2,), (0, 3)), ((0, 3, 0, 0), 1)), ((0, 0, 1, 0), 1))
        for roots in WITH_ROOTS:
            for x in given_over(roots[:-1]):
                y = times(roots, lifted(x, len(roots)), last_root(roots))
                self.found(roots, times(roots, y, y), y)

    def test_ordinary_numbers_with_both_halves(self):
        self.assertEqual(root(((2,),), ((3, 2), 1)), ((1, 1), 1))
        self.assertEqual(root(((2,),), ((3, -2), 1)), ((-1, 1), 1))
        self.assertEqual(root(((2,),), ((99, -70), 1)), ((-7, 5), 1))
        self.assertEqual(root(((2,), (3, 0)), ((5, 0, 0, 2), 1)), ((0, 1, 1, 0), 1))
        self.assertIsNone(root(((2,),), ((2, 1), 1)))
        self.assertIsNone(root(((2,),), ((-3, -2), 1)))
        self.assertIsNone(root(((2,), (3, 0)), ((5, 0, 0, 1), 1)))

    def test_no_squares(self):
        for roots in ALL:
            for x in non_squares_over(roots):
                with self.subTest(roots=roots, x=x):
                    self.assertIsNone(root(roots, x))

    def test_the_numbers_under_roots_are_no_squares_ahead_of_them(self):
        for roots in WITH_ROOTS:
            for k in range(len(roots)):
                under = (roots[k], 1)
                self.assertIsNone(root(roots[:k], under))
                last = last_root(roots[:k + 1])
                self.assertEqual(root(roots[:k + 1], lifted(under, k + 1)), last)
                self.assertEqual(root(roots, lifted(under, len(roots))), lifted(last, len(roots)))

    def test_below_nought_there_is_none(self):
        for roots in ALL:
            for x in given_over(roots):
                if sign_of(roots, x) < 0:
                    self.assertIsNone(root(roots, x))

    def test_all_small_numbers_over_the_root_of_two(self):
        squares = {}
        for c, d in itertools.product(range(-7, 8), repeat=2):
            squares[(c * c + 2 * d * d, 2 * c * d)] = True
        for a, b in itertools.product(range(-5, 40), range(-30, 31)):
            told = root(((2,),), ((a, b), 1))
            self.assertEqual(told is not None, (a, b) in squares, (a, b))

    def test_all_small_numbers_over_the_roots_of_two_and_three(self):
        # Whole numbers there have at most the bottom 2, and their first tops bound all tops of a root.
        roots, squares = ((2,), (3, 0)), {}
        for p, q, r, s in itertools.product(range(-5, 6), range(-4, 5), range(-3, 4), range(-2, 3)):
            if p * p + 2 * q * q + 3 * r * r + 6 * s * s <= 24:
                squares[product_of(roots, lowest((p, q, r, s), 2), lowest((p, q, r, s), 2))] = True
        for tops in itertools.product(range(-1, 7), range(-4, 5), range(-4, 5), range(-4, 5)):
            self.assertEqual(root(roots, (tops, 1)) is not None, (tops, 1) in squares, tops)

    def test_what_was_told_whatever_its_size(self):
        for roots in [NONE, ONE_ROOT[0], TWO_ROOTS[0], THREE_ROOTS[1]]:
            x = numbers_over(roots, 73, 1, GREAT, GREAT)[0]
            for _ in range(3):
                x = times(roots, x, x)
            self.assertEqual(root(roots, times(roots, x, x)), x)
            self.assertIsNone(root(roots, times(roots, times(roots, x, x), whole(roots, 17))))


class Paper(unittest.TestCase):
    def told_rightly(self, roots, x):
        with self.subTest(roots=roots, x=x):
            told = paper(roots, x)
            self.assertTrue(is_paper(roots, x, told))
            self.assertIs(holds(roots, x, told), True)
            return told

    def test_below(self):
        for top, bottom in [(-1, 1), (-4, 1), (-4, 9), (-2, 3), (-GREAT, 1)]:
            self.assertEqual(paper((), ((top,), bottom)), ("below",))

    def test_between(self):
        told = [(2, 1, 1), (3, 1, 1), (5, 1, 2), (8, 1, 2), (1, 2, 1), (2, 3, 2), (8, 9, 8), (GREAT ** 2 + 1, 1, GREAT),
                (GREAT ** 2 - 1, 1, GREAT - 1)]
        for top, bottom, w in told:
            self.assertEqual(paper((), ((top,), bottom)), ("between", w))

    def test_both(self):
        self.assertEqual(paper(((2,),), ((3, 0), 1)), ("both", ("between", 1), ("between", 2)))
        self.assertEqual(paper(((2,),), ((-1, 0), 1)), ("both", ("below",), ("below",)))
        inner = paper(((2,),), ((5, 0), 1))
        self.assertEqual(paper(((2,), (3, 0)), ((5, 0, 0, 0), 1)), ("both", inner, paper(((2,),), ((15, 0), 1))))

    def test_norm(self):
        self.assertEqual(paper(((2,),), ((2, 1), 1)), ("norm", ("between", 1)))
        self.assertEqual(paper(((2,),), ((0, 1), 1)), ("norm", ("below",)))
        self.assertEqual(paper(((2,), (0, 3)), ((0, 0, 1, 0), 1)), ("norm", paper(((2,),), ((0, -3), 1))))

    def test_halves(self):
        # 9 + 6 * (the root of 2) has the norm 9: (9 + 3) / 2 and (9 - 3) / 2 are no squares.
        told = paper(((2,),), ((-3, 2), 1))
        self.assertIn(told, [("halves", ((1,), 1), ("below",), ("below",)),
                             ("halves", ((-1,), 1), ("below",), ("below",))])
        told = paper(((2,),), ((9, 6), 1))
        self.assertIn(told, [("halves", ((3,), 1), ("between", 2), ("between", 1)),
                             ("halves", ((-3,), 1), ("between", 1), ("between", 2))])

    def test_each_word_is_told_over_each_number_of_roots(self):
        seen = {}
        for roots in ALL:
            for x in non_squares_over(roots) + given_over(roots):
                if root(roots, x) is None:
                    seen[(len(roots), paper(roots, x)[0])] = True
        wanted = [(0, "below"), (0, "between")]
        for many in (1, 2, 3):
            wanted.extend([(many, "both"), (many, "norm"), (many, "halves")])
        self.assertEqual(sorted(seen), sorted(wanted))

    def test_each_number_that_is_no_square_has_one(self):
        for roots in ALL:
            for x in non_squares_over(roots):
                self.assertIsNotNone(self.told_rightly(roots, x))

    def test_a_number_has_a_paper_just_where_it_has_no_root(self):
        for roots in ALL:
            for x in given_over(roots):
                if root(roots, x) is None:
                    self.told_rightly(roots, x)
                else:
                    self.assertIsNone(paper(roots, x))

    def test_no_square_has_one(self):
        for roots in ALL:
            for x in given_over(roots):
                self.assertIsNone(paper(roots, product_of(roots, x, x)))

    def test_all_small_numbers_over_one_and_two_roots(self):
        for tops in itertools.product(range(-3, 4), range(-3, 4)):
            for roots in ONE_ROOT[:3]:
                if root(roots, (tops, 1)) is None:
                    self.told_rightly(roots, (tops, 1))
        for tops in itertools.product(range(-1, 2), repeat=4):
            for roots in TWO_ROOTS:
                if root(roots, (tops, 1)) is None:
                    self.told_rightly(roots, (tops, 1))


def spoilt(thing):
    """Things that differ from a paper in one place."""
    told = [list(thing), thing + (0,), thing + (thing[-1],), thing[:-1], thing[1:], thing[::-1], (thing,),
            thing[:1] + thing[2:], thing[:1] + thing[:0:-1]]
    for word in ("below", "between", "both", "norm", "halves", "Norm", "", 0, None):
        told.append((word,) + thing[1:])
    for at, part in enumerate(thing):
        for other in spoilt_part(part):
            told.append(thing[:at] + (other,) + thing[at + 1:])
    return told


def spoilt_part(part):
    told = [None, True, 0, "below", (), [part], (part,)]
    if type(part) is int:
        told.extend([part + 1, part - 1, -part, str(part), (part,), bool(part)])
    elif type(part) is tuple and part and type(part[0]) is tuple:
        tops, bottom = part
        told.extend([(list(tops), bottom), [tops, bottom], (tops, bottom, 1), (tops,)])
        told.extend([(tops, 0), (tops, True), (tops, -bottom)])
        told.extend([(tuple(2 * top for top in tops), 2 * bottom), (tuple(-top for top in tops), -bottom)])
        told.extend([(tuple(-top for top in tops), bottom), (tops + (0,) * len(tops), bottom), (tops[1:], bottom)])
        told.extend([(tops, bottom + 1), (tuple(top + 1 for top in tops), bottom), (tuple(map(bool, tops)), bottom)])
    elif type(part) is tuple and part:
        told.extend(spoilt(part))
    return told


def words_of(thing):
    return (thing[0],) + tuple(words_of(part) for part in thing[1:] if type(part) is tuple and type(part[0]) is str)


class Holds(unittest.TestCase):
    def looked_at(self, roots, x, thing, wanted):
        with self.subTest(roots=roots, x=x, thing=thing):
            self.assertIs(holds(roots, x, thing), wanted)

    def test_below(self):
        for top in (-1, -4, -GREAT):
            self.looked_at((), ((top,), 1), ("below",), True)
        for top in (0, 1, 2, 4, GREAT):
            self.looked_at((), ((top,), 1), ("below",), False)
        for thing in [("below", 1), ("below", ()), ["below"], ("Below",), (), ("between", 0), ("between", -1), "below"]:
            self.looked_at((), ((-2,), 1), thing, False)
        for roots in WITH_ROOTS:
            self.looked_at(roots, whole(roots, -1), ("below",), False)

    def test_between(self):
        for top, bottom, w in [(2, 1, 1), (3, 1, 1), (8, 1, 2), (1, 2, 1), (2, 3, 2), (GREAT ** 2 - 1, 1, GREAT - 1)]:
            self.looked_at((), ((top,), bottom), ("between", w), True)
            for other in (w + 1, w - 1, -w, -w - 1, str(w), None, (w,), [w]):
                self.looked_at((), ((top,), bottom), ("between", other), False)
        for thing in [("between", True), ("between", False), ("between",), ("between", 1, 1), ["between", 1],
                      ("Between", 1)]:
            self.looked_at((), ((2,), 1), thing, False)
        for top in (0, 1, 4, 9):
            for w in range(5):
                self.looked_at((), ((top,), 1), ("between", w), False)

    def test_both(self):
        good = ("both", ("between", 1), ("between", 2))
        self.looked_at(((2,),), ((3, 0), 1), good, True)
        for thing in [("both", good[2], good[1]), ("both", good[1]), ("both",), good + (good[1],), list(good),
                      ("both", list(good[1]), good[2]), ("norm", good[1]), ("halves",) + good[1:],
                      ("both", ("between", True), good[2]), good[1], (good,)]:
            self.looked_at(((2,),), ((3, 0), 1), thing, False)
        self.looked_at(((2,),), ((2, 0), 1), ("both", ("between", 1), ("between", 1)), False)
        self.looked_at(((2,),), ((2, 0), 1), ("both", ("between", 1), ("between", 2)), False)

    def test_norm(self):
        self.looked_at(((2,),), ((2, 1), 1), ("norm", ("between", 1)), True)
        for thing in [("norm", ("between", 2)), ("norm", ("below",)), ("norm",), ("norm", ("between", 1), 1),
                      ("norm", ["between", 1]), ["norm", ("between", 1)], ("both", ("between", 1), ("between", 1)),
                      ("norm", ("between", True))]:
            self.looked_at(((2,),), ((2, 1), 1), thing, False)
        self.looked_at(((2,),), ((2, 0), 1), ("norm", ("between", 2)), False)

    def test_halves_with_either_n(self):
        x, one, other = ((9, 6), 1), ("between", 2), ("between", 1)
        self.looked_at(((2,),), x, ("halves", ((3,), 1), one, other), True)
        self.looked_at(((2,),), x, ("halves", ((-3,), 1), other, one), True)
        self.looked_at(((2,),), x, ("halves", ((3,), 1), other, one), False)
        for n in [((-3,), 1), ((6,), 2), ((-3,), -1), ([3], 1), [(3,), 1], ((3,), True), ((3, 0), 1), 3, ((4,), 1),
                  ((3,), 1, 1), ((3,),), ((3,), "1"), None]:
            self.looked_at(((2,),), x, ("halves", n, one, other), False)
        for thing in [("halves", ((3,), 1), one), ("halves", ((3,), 1), one, other, other), ("halves", one, other),
                      ["halves", ((3,), 1), one, other], ("norm", one), ("both", one, other)]:
            self.looked_at(((2,),), x, thing, False)

    def test_a_truth_among_the_tops_of_n(self):
        x = ((-3, 2), 1)
        self.looked_at(((2,),), x, ("halves", ((1,), 1), ("below",), ("below",)), True)
        self.looked_at(((2,),), x, ("halves", ((-1,), 1), ("below",), ("below",)), True)
        self.looked_at(((2,),), x, ("halves", ((True,), 1), ("below",), ("below",)), False)
        self.looked_at(((2,),), x, ("halves", ((1,), True), ("below",), ("below",)), False)

    def test_spoilt_papers(self):
        for roots in [NONE, ONE_ROOT[0], ONE_ROOT[2], TWO_ROOTS[0], TWO_ROOTS[1], TWO_ROOTS[4]] + THREE_ROOTS[:2]:
            one_of_each = {words_of(paper(roots, x)): x for x in reversed(non_squares_over(roots))}
            for x in list(one_of_each.values())[:4]:
                for thing in spoilt(paper(roots, x)):
                    self.looked_at(roots, x, thing, is_paper(roots, x, thing))

    def test_a_paper_of_another_number(self):
        for roots in ALL:
            given = non_squares_over(roots)[:16]
            papers = [paper(roots, x) for x in given]
            for x in given:
                for thing in papers:
                    self.looked_at(roots, x, thing, is_paper(roots, x, thing))

    def test_no_paper_of_a_square_holds(self):
        for roots in ALL:
            papers = [paper(roots, x) for x in non_squares_over(roots)]
            for x in given_over(roots)[:6]:
                square = times(roots, x, x)
                for thing in papers:
                    self.looked_at(roots, square, thing, False)

    def test_other_things(self):
        for roots in ALL:
            for x in given_over(roots)[:5] + [whole(roots, -1), whole(roots, 17)]:
                for thing in odd_things():
                    told = holds(roots, x, thing)
                    self.assertIn(told, (True, False))
                    self.assertIs(type(told), bool)
        for thing in odd_things():
            self.assertIs(holds((), ((2,), 1), thing), False)
            self.assertIs(holds(((2,),), ((3, 0), 1), thing), False)
            self.assertIs(holds(((2,),), ((2, 1), 1), thing), False)


class WhatIsHandedIn(unittest.TestCase):
    def test_it_stays(self):
        roots, x = ((2,), (0, 3)), ((1, 2, 3, 4), 5)
        thing = ["norm", ["between", 1]]
        kept = copy.deepcopy((roots, x, thing))
        for _ in range(2):
            root(roots, x), paper(roots, x), holds(roots, x, thing), holds(roots, x, ("norm", thing))
        self.assertEqual((roots, x, thing), kept)


if __name__ == "__main__":
    unittest.main()
