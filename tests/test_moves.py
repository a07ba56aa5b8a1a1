"""[30], [31]: rows moved, turned and made greater, and told in another order; [3]: claims stay as they are."""

import itertools
import unittest
from fractions import Fraction

from compasshall.carrying import carried
from compasshall.claims import claim_of
from compasshall.drawings import Drawing, drawn
from compasshall.errors import (HallError, NoChange, NoKind, NoLine, NoMeet, NoMove, NoName, NoRing, NoRoom, NoRow,
                                TooGreat, TooMany, Twice)
from compasshall.moves import changed, moved
from compasshall.steps import step_of
from compasshall.texts import fraction_text
from handy import (DRAWINGS, FIFTH, HALVED, MIXED, PLAIN, SIXTH, Looks, Wheel, names_in, row_by_chance,
                   sign_of)

MOST = 10 ** 60 - 1


def number(top, bottom=1):
    told = Fraction(top, bottom)
    return ((told.numerator,), told.denominator)


NOUGHT, ONE = number(0), number(1)

# Moves by whole numbers and fractions, with and without a sign, with p or q nought.
MOVES = [
    (ONE, NOUGHT, NOUGHT, NOUGHT), (ONE, NOUGHT, number(3), number(-1, 2)), (number(-1), NOUGHT, NOUGHT, NOUGHT),
    (NOUGHT, ONE, NOUGHT, NOUGHT), (NOUGHT, number(-2), number(5), number(1, 7)),
    (number(3), number(4), NOUGHT, NOUGHT), (number(3, 5), number(-4, 5), number(2), number(2)),
    (number(1, 3), ONE, number(-7, 2), number(11, 3)), (number(-5, 2), number(-1, 6), number(1, 9), number(-4)),
]


def by_hand(row, move):
    """A moved row as [30] tells it, by Python's own fractions."""
    p, q, e, f = [Fraction(one[0][0], one[1]) for one in move]
    words = row.split(" ")
    if words[0] == "point":
        x, y = Fraction(words[2]), Fraction(words[3])
        words[2:] = [str(p * x - q * y + e), str(q * x + p * y + f)]
    elif len(words) == 5 and words[0] == "ring":
        words[4] = str(Fraction(words[4]) * (p * p + q * q))
    return " ".join(words)


def added(drawing, row):
    """None where a row is done; else the refusal's class, and its name or its number's sign."""
    roots = drawing.roots()
    try:
        drawing.add(row)
    except HallError as refusal:
        if isinstance(refusal, NoMeet):
            return (NoMeet, sign_of(roots, refusal.number))
        return (type(refusal), getattr(refusal, "name", None))
    return None


def claims_about(drawing, seed, many):
    """Claims by chance, some of each kind."""
    wheel, told = Wheel(seed), []
    points, things = names_in(drawing, "point"), names_in(drawing, "line") + names_in(drawing, "ring")
    for word, count in [("same", 2), ("even", 4), ("longer", 4), ("square", 4), ("middle", 3), ("left", 3), ("row", 3),
                        ("corners", 6)]:
        told.extend(" ".join([word] + [wheel.chosen(points) for _ in range(count)]) for _ in range(many))
    told.extend(f"on {wheel.chosen(points)} {thing}" for thing in things)
    return told


class Moved(Looks, unittest.TestCase):
    def test_rows_of_each_kind(self):
        rows = ["point a 1 2", "point b -3/4 0", "line l a b", "ring r a b", "ring s a by 3/5", "meet m l l",
                "meet n l r first", "meet o r s second"]
        told = moved(rows, number(3), number(4), number(1, 2), number(-1))
        self.assertEqual(told, ["point a -9/2 9", "point b -7/4 -4", "line l a b", "ring r a b", "ring s a by 15",
                                "meet m l l", "meet n l r first", "meet o r s second"])
        self.assertIs(type(told), list)

    def test_turned_by_a_quarter(self):
        self.assertEqual(moved(["point a 2 1", "ring r a by 7"], NOUGHT, ONE, NOUGHT, NOUGHT),
                         ["point a -1 2", "ring r a by 7"])
        self.assertEqual(moved(["point a 2 1", "ring r a by 7"], NOUGHT, number(-1), NOUGHT, NOUGHT),
                         ["point a 1 -2", "ring r a by 7"])

    def test_made_greater_and_smaller(self):
        self.assertEqual(moved(["point a 2 1", "ring r a by 7"], number(10), NOUGHT, NOUGHT, NOUGHT),
                         ["point a 20 10", "ring r a by 700"])
        self.assertEqual(moved(["point a 2 1", "ring r a by 7"], number(-1, 2), NOUGHT, NOUGHT, NOUGHT),
                         ["point a -1 -1/2", "ring r a by 7/4"])

    def test_by_all_moves_against_pythons_fractions(self):
        for rows in DRAWINGS:
            for move in MOVES:
                self.assertEqual(moved(rows, *move), [by_hand(row, move) for row in rows])

    def test_rows_are_told_as_they_are_written(self):
        rows = ["point a 4/6 -0", "ring r a by 10/4", "point b -6/3 0/9", "ring s q by -0", "ring t q by -2/4"]
        told = moved(rows, ONE, NOUGHT, NOUGHT, NOUGHT)
        self.assertEqual(told, [step_of(row).text() for row in rows])
        self.assertEqual(told, ["point a 2/3 0", "ring r a by 5/2", "point b -2 0", "ring s q by 0",
                                "ring t q by -1/2"])

    def test_rows_that_make_no_drawing(self):
        rows = ["line l a b", "ring r x by -3", "point a 1 1", "point a 1 1", "meet l l l", "point by 0 2",
                "ring by by by", "ring by by by 2", "ring r a a"]
        self.assertEqual(moved(rows, number(2), ONE, ONE, NOUGHT),
                         ["line l a b", "ring r x by -15", "point a 2 3", "point a 2 3", "meet l l l", "point by -1 4",
                          "ring by by by", "ring by by by 10", "ring r a a"])
        self.assertEqual(moved([], ONE, NOUGHT, NOUGHT, NOUGHT), [])

    def test_no_move(self):
        for rows in DRAWINGS + [[], ["line l a b"]]:
            self.assert_refused(NoMove, moved, rows, NOUGHT, NOUGHT, NOUGHT, NOUGHT)
            self.assert_refused(NoMove, moved, rows, NOUGHT, NOUGHT, ONE, number(-1, 2))

    def test_no_move_ahead_of_too_great(self):
        great = (((10 ** 61 + 1),), 3)
        self.assert_refused(NoMove, moved, ["point a 1 1"], NOUGHT, NOUGHT, great, great)
        self.assert_refused(TooGreat, moved, ["point a 1 1"], ONE, NOUGHT, great, NOUGHT)

    def test_the_list_handed_in_stays(self):
        rows = ["point a 4/6 1", "ring r a by 2"]
        told = moved(rows, number(3), ONE, NOUGHT, NOUGHT)
        self.assertEqual(rows, ["point a 4/6 1", "ring r a by 2"])
        told.clear()
        self.assertEqual(moved(rows, number(3), ONE, NOUGHT, NOUGHT), ["point a 1 11/3", "ring r a by 20"])
        rows.clear()
        self.assertEqual(moved(rows, number(3), ONE, NOUGHT, NOUGHT), [])

    def test_no_row_among_the_rows_is_told_otherwise(self):
        rows = [row for row in MIXED if row.split(" ")[0] in ("line", "meet")]
        for move in MOVES:
            self.assertEqual(moved(rows, *move), rows)

    def test_there_and_back(self):
        for rows in DRAWINGS:
            there = moved(rows, number(3, 2), number(-2), number(1), number(5, 3))
            # 3/2 - 2i times this is 1.
            p, q = number(6, 25), number(8, 25)
            back = moved(moved(there, ONE, NOUGHT, number(-1), number(-5, 3)), p, q, NOUGHT, NOUGHT)
            self.assertEqual(back, rows)


class Bounds(Looks, unittest.TestCase):
    def test_a_top_of_sixty_figures_and_of_one_more(self):
        for sign in ("", "-"):
            for x, y in [(f"{sign}{MOST - 1}", "0"), ("0", f"{sign}{MOST - 1}")]:
                step = number(1 if sign == "" else -1)
                told = moved([f"point a {x} {y}"], ONE, NOUGHT, step, step)
                self.assertEqual(max(len(word) for word in told[0].replace("-", "").split(" ")), 60)
                twice = number(2 if sign == "" else -2)
                self.assert_refused(TooGreat, moved, [f"point a {x} {y}"], ONE, NOUGHT, twice, twice)

    def test_each_of_the_two_numbers(self):
        self.assert_refused(TooGreat, moved, [f"point a {MOST} 0"], ONE, NOUGHT, ONE, NOUGHT)
        self.assert_refused(TooGreat, moved, [f"point a 0 {MOST}"], ONE, NOUGHT, NOUGHT, ONE)
        self.assert_refused(TooGreat, moved, [f"point a {-MOST} 0"], ONE, NOUGHT, number(-1), NOUGHT)
        self.assert_refused(TooGreat, moved, [f"point a 0 {-MOST}"], ONE, NOUGHT, NOUGHT, number(-1))
        self.assertEqual(moved([f"point a {MOST} {-MOST}"], ONE, NOUGHT, NOUGHT, NOUGHT), [f"point a {MOST} {-MOST}"])
        self.assertEqual(moved([f"point a {MOST} {-MOST}"], NOUGHT, ONE, NOUGHT, NOUGHT), [f"point a {MOST} {MOST}"])

    def test_a_bottom_of_sixty_figures_and_of_one_more(self):
        half = 10 ** 59 + 1
        self.assertEqual(moved([f"point a 1/{half} 0"], number(1, 9), NOUGHT, NOUGHT, NOUGHT),
                         [f"point a 1/{9 * half} 0"])
        self.assert_refused(TooGreat, moved, [f"point a 1/{half} 0"], number(1, 10), NOUGHT, NOUGHT, NOUGHT)
        self.assert_refused(TooGreat, moved, [f"point a 0 1/{half}"], number(1, 10), NOUGHT, NOUGHT, NOUGHT)
        self.assertEqual(moved([f"point a 1/{MOST} 0"], ONE, NOUGHT, NOUGHT, NOUGHT), [f"point a 1/{MOST} 0"])

    def test_a_fraction_behind_by(self):
        self.assertEqual(moved([f"ring r a by {10 ** 58}"], number(3), NOUGHT, NOUGHT, NOUGHT),
                         [f"ring r a by {9 * 10 ** 58}"])
        self.assertEqual(moved([f"ring r a by {10 ** 59}"], number(2), number(2), NOUGHT, NOUGHT),
                         [f"ring r a by {8 * 10 ** 59}"])
        self.assert_refused(TooGreat, moved, [f"ring r a by {10 ** 59}"], number(3), ONE, NOUGHT, NOUGHT)
        self.assert_refused(TooGreat, moved, [f"ring r a by -{10 ** 59}"], number(3), ONE, NOUGHT, NOUGHT)
        self.assertEqual(moved([f"ring r a by 1/{10 ** 59}"], number(1, 3), NOUGHT, NOUGHT, NOUGHT),
                         [f"ring r a by 1/{9 * 10 ** 59}"])
        self.assert_refused(TooGreat, moved, [f"ring r a by 1/{10 ** 59}"], number(1, 4), NOUGHT, NOUGHT, NOUGHT)

    def test_lowest_terms_count(self):
        rows = [f"point a {10 ** 59}/7 1", f"ring r a by {10 ** 59}/49"]
        self.assertEqual(moved(rows, number(7, 10 ** 59), NOUGHT, NOUGHT, NOUGHT),
                         [f"point a 1 7/{10 ** 59}", f"ring r a by 1/{10 ** 59}"])

    def test_behind_rows_that_fit(self):
        rows = ["point b 1 1", "line l a b", f"point a {MOST} 0"]
        self.assert_refused(TooGreat, moved, rows, ONE, NOUGHT, ONE, NOUGHT)
        self.assertEqual(rows, ["point b 1 1", "line l a b", f"point a {MOST} 0"])


class DrawingsMoved(Looks, unittest.TestCase):
    def assert_same_signs(self, one, other, seed, many):
        for text in claims_about(one, seed, many):
            told, again = claim_of(text).asked(one), claim_of(text).asked(other)
            self.assertEqual(told[:2], again[:2], text)

    def test_as_many_roots_and_each_claim_with_one_sign(self):
        for seed, rows in enumerate(DRAWINGS):
            drawing = drawn(rows)
            for move in MOVES:
                other = drawn(moved(rows, *move))
                self.assertEqual(len(other.roots()), len(drawing.roots()))
                self.assert_same_signs(drawing, other, seed, 4)

    def test_the_places_are_moved(self):
        for rows in DRAWINGS:
            drawing = drawn(rows)
            other = drawn(moved(rows, ONE, NOUGHT, number(1, 2), number(-3)))
            # Moved alone, not turned, the drawing has the very roots.
            self.assertEqual(other.roots(), drawing.roots())
            for words in [row.split(" ") for row in rows]:
                one, two = drawing.place(words[1]), other.place(words[1])
                self.assertEqual(one[0], two[0])
                if one[0] == "point":
                    x, y = one[1], one[2]
                    self.assertEqual(Fraction(two[1][0][0], two[1][1]) - Fraction(x[0][0], x[1]), Fraction(1, 2))
                    self.assertEqual(Fraction(two[2][0][0], two[2][1]) - Fraction(y[0][0], y[1]), -3)
                if one[0] == "ring":
                    self.assertEqual(one[3], two[3])

    def test_the_same_rows_are_refused(self):
        counts = {}
        for seed, move in enumerate(MOVES * 2):
            wheel, one, other = Wheel(seed), Drawing(), Drawing()
            for _ in range(45):
                row = row_by_chance(wheel, one, 4)
                told = added(one, row)
                kind = told and told[0]
                counts[kind] = counts.get(kind, 0) + 1
                if kind is not NoRow:
                    self.assertEqual(added(other, moved([row], *move)[0]), told, row)
                    self.assertEqual(len(one.roots()), len(other.roots()))
            self.assert_same_signs(one, other, seed, 1)
        for kind in [None, TooMany, Twice, NoName, NoKind, NoLine, NoRing, NoMeet, NoRoom]:
            self.assertGreaterEqual(counts.get(kind, 0), 2, kind)
        self.assertNotIn(TooGreat, counts)

    def test_refused_with_one_class_whatever_the_move(self):
        rows = PLAIN + ["line fi f i"]
        for wrong in ["meet z ab cf", "meet z r r first", "line z g i", "ring z g i", "ring z a by 0", "ring z a by -5",
                      "meet z a r first", "line z a nn", "point a 0 0", "meet z cf fi"]:
            told = added(drawn(rows), wrong)
            self.assertIsNotNone(told)
            for move in MOVES:
                again = moved(rows + [wrong], *move)
                self.assertEqual(added(drawn(again[:-1]), again[-1]), told)


TWO_MEETS = [
    "point a 0 0", "point b 1 0", "point c 1 2", "line l a b", "ring r c by 6", "ring s c by 7", "meet d l r first",
    "meet e l s second", "ring t d e", "line k c e", "meet f k r first",
]


class Changed(Looks, unittest.TestCase):
    def test_two_rows_change_places(self):
        rows = ["point a 0 0", "point b 1 1", "point c 2 3", "line l a b", "ring r c by 2"]
        self.assertEqual(changed(rows, 0), ["point b 1 1", "point a 0 0", "point c 2 3", "line l a b", "ring r c by 2"])
        self.assertEqual(changed(rows, 1), ["point a 0 0", "point c 2 3", "point b 1 1", "line l a b", "ring r c by 2"])
        self.assertEqual(changed(rows, 2), ["point a 0 0", "point b 1 1", "line l a b", "point c 2 3", "ring r c by 2"])
        self.assertEqual(changed(rows, 3), ["point a 0 0", "point b 1 1", "point c 2 3", "ring r c by 2", "line l a b"])
        self.assertEqual(changed(["point a 0 0", "point b 1 1"], 0), ["point b 1 1", "point a 0 0"])

    def test_rows_are_told_as_they_were_handed_in(self):
        rows = ["point a 2/4 -0", "point b 6/3 1", "ring r a by 4/2", "ring s b by 9/3"]
        self.assertEqual(changed(rows, 0), ["point b 6/3 1", "point a 2/4 -0", "ring r a by 4/2", "ring s b by 9/3"])
        self.assertEqual(changed(rows, 2), ["point a 2/4 -0", "point b 6/3 1", "ring s b by 9/3", "ring r a by 4/2"])

    def test_the_list_handed_in_stays(self):
        rows = ["point a 0 0", "point b 1 1", "point c 2 3"]
        told = changed(rows, 0)
        self.assertEqual(rows, ["point a 0 0", "point b 1 1", "point c 2 3"])
        told.clear()
        self.assertEqual(changed(rows, 0), ["point b 1 1", "point a 0 0", "point c 2 3"])
        self.assertEqual(changed(changed(rows, 1), 1), rows)

    def test_at_beyond_the_rows(self):
        for rows in DRAWINGS:
            for at in [-1, -2, -len(rows), -len(rows) - 1, len(rows) - 1, len(rows), len(rows) + 1, 10 ** 60 - 1,
                       1 - 10 ** 60]:
                self.assert_refused(NoChange, changed, rows, at)
        rows = ["point a 0 0", "point b 1 1"]
        for at in [-1, 1, 2]:
            self.assert_refused(NoChange, changed, rows, at)

    def test_no_row_and_one_row(self):
        for at in [-2, -1, 0, 1, 2]:
            self.assert_refused(NoChange, changed, [], at)
            self.assert_refused(NoChange, changed, ["point a 0 0"], at)

    def test_where_the_later_one_needs_the_earlier_one(self):
        for later in ["line l a b", "line l b a", "line l a a", "ring r a b", "ring r b a", "ring r a by 2",
                      "meet m a b", "meet m b a", "meet m a b first", "meet m b a second"]:
            self.assert_refused(NoChange, changed, ["point a 0 0", later], 0)
            self.assert_refused(NoChange, changed, ["point b 0 0", "line a b c", later, "point c 1 1"], 1)
            self.assertEqual(changed(["point c 0 0", later], 0), [later, "point c 0 0"])
            # What the earlier one needs is free.
            self.assertEqual(changed([later, "point a 0 0"], 0), ["point a 0 0", later])

    def test_the_laters_own_name_is_none_of_its_others(self):
        self.assertEqual(changed(["point a 0 0", "point a 1 1"], 0), ["point a 1 1", "point a 0 0"])
        self.assertEqual(changed(["point a 0 0", "line a b c"], 0), ["line a b c", "point a 0 0"])
        self.assertEqual(changed(["ring a b c", "ring a b by 2"], 0), ["ring a b by 2", "ring a b c"])
        self.assert_refused(NoChange, changed, ["point a 0 0", "line a a c"], 0)

    def test_names_that_are_words(self):
        self.assertEqual(changed(["point by 0 0", "ring r a by 3"], 0), ["ring r a by 3", "point by 0 0"])
        self.assert_refused(NoChange, changed, ["point by 0 0", "ring r a by"], 0)
        self.assertEqual(changed(["point first 0 0", "meet m k l first"], 0), ["meet m k l first", "point first 0 0"])
        self.assert_refused(NoChange, changed, ["point first 0 0", "meet m k first"], 0)

    def assert_one_drawing(self, one, other, seed):
        """As many roots, the same things told, each number carried to the other's, claims with one sign."""
        self.assertEqual(len(one.roots()), len(other.roots()))
        self.assertEqual(sorted(one.rows()), sorted(other.rows()))
        for name in names_in(one):
            place, again = one.place(name), other.place(name)
            self.assertEqual(place[0], again[0])
            there = tuple(carried(one.roots(), other.roots(), x) for x in place[1:])
            self.assertEqual(there, again[1:])
            self.assertEqual(tuple(carried(other.roots(), one.roots(), x) for x in again[1:]), place[1:])
        for text in claims_about(one, seed, 2):
            told, again = claim_of(text).asked(one), claim_of(text).asked(other)
            self.assertEqual(told[:2], again[:2])
            self.assertEqual(carried(one.roots(), other.roots(), told[2]), again[2])

    def test_both_drawings_tell_the_same(self):
        done, unlike = 0, 0
        for seed, rows in enumerate(DRAWINGS + [TWO_MEETS]):
            drawing = drawn(rows)
            for at in range(len(rows) - 1):
                try:
                    other = drawn(changed(rows, at))
                except NoChange:
                    self.assertIn(rows[at].split(" ")[1], step_of(rows[at + 1]).needs())
                    continue
                self.assert_one_drawing(drawing, other, seed)
                done += 1
                unlike += drawing.roots() != other.roots()
        self.assertGreater(done, 30)
        self.assertGreater(unlike, 0)

    def test_roots_put_in_in_another_order(self):
        drawing = drawn(TWO_MEETS)
        other = drawn(changed(TWO_MEETS, 6))
        self.assertNotEqual(drawing.roots(), other.roots())
        self.assertEqual(drawing.roots()[:2], ((2,), (3, 0)))
        self.assertEqual(other.roots()[:2], ((3,), (2, 0)))
        self.assert_one_drawing(drawing, other, 7)

    def test_many_changes_one_after_another(self):
        wheel, drawing = Wheel(5), drawn(MIXED)
        rows = list(MIXED)
        for _ in range(30):
            try:
                rows = changed(rows, wheel.below(len(rows) - 1))
            except NoChange:
                continue
            self.assert_one_drawing(drawing, drawn(rows), 8)
        self.assertNotEqual(rows, MIXED)

    def test_moved_and_changed(self):
        for move, at in itertools.product(MOVES[4:7], (6, 9)):
            one = changed(moved(TWO_MEETS, *move), at) if at == 6 else moved(TWO_MEETS, *move)
            drawing, other = drawn(TWO_MEETS), drawn(one)
            for text in claims_about(drawing, at, 3):
                self.assertEqual(claim_of(text).asked(drawing)[:2], claim_of(text).asked(other)[:2], text)


class Handy(unittest.TestCase):
    def test_the_rows_in_use(self):
        self.assertEqual([len(drawn(rows).roots()) for rows in [PLAIN, SIXTH, FIFTH, HALVED, MIXED]], [0, 1, 2, 3, 3])
        self.assertEqual(fraction_text(number(-6, 4)), "-3/2")
        self.assertEqual(added(Drawing(), "line l a b"), (NoName, "a"))
        self.assertEqual(added(Drawing(), "line"), (NoRow, None))


if __name__ == "__main__":
    unittest.main()
