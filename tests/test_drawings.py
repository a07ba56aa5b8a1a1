"""[2], [3], [26], [27]: drawings, row by row, and what refuses a row."""

import re
import unittest

from compasshall.drawings import Drawing, drawn
from compasshall.errors import (NoKind, NoLine, NoMeet, NoName, NoRing, NoRoom, NoRow, TooGreat, TooMany, Twice)
from compasshall.meets import meet_of_lines, meets_of_line, meets_of_rings
from compasshall.places import line_of, ring_about, ring_through
from compasshall.scaffolds import is_scaffold
from compasshall.steps import step_of
from compasshall.sums import lifted
from compasshall.texts import fraction_read
from handy import (DRAWINGS, FIFTH, HALVED, MIXED, NO_TEXTS, PLAIN, SIXTH, Looks, Thorn, Wheel, far_by_hand,
                   left_of_line, less, lowest, names_in, product_of, row_by_chance, sign_of, turn, whole)

FRACTION = r"-?(?:0|[1-9][0-9]{0,59})(?:/[1-9][0-9]{0,59})?"
NAME = "[a-z]{1,6}"
ROW = re.compile(rf"point {NAME} {FRACTION} {FRACTION}|(?:line|ring|meet) {NAME} {NAME} {NAME}"
                 rf"|ring {NAME} {NAME} by {FRACTION}|meet {NAME} {NAME} {NAME} (?:first|second)")


def seen(drawing):
    """All that a drawing tells."""
    return (drawing.rows(), drawing.roots(), [drawing.place(name) for name in names_in(drawing)])


def raised(place, many):
    return place[:1] + tuple(lifted(number, many) for number in place[1:])


def along(roots, line, ring, place):
    """Below nought, nought or above nought as the place lies ahead of the ring's middle, beside it or behind."""
    e, f = less(place[0], ring[0]), less(place[1], ring[1])
    return sign_of(roots, less(product_of(roots, e, line[1]), product_of(roots, f, line[0])))


class Drawings(Looks, unittest.TestCase):
    def assert_place(self, drawing, row):
        """What [3] says of a row's place, looked at without the program's own places and meets."""
        roots, words = drawing.roots(), row.split(" ")
        place = drawing.place(words[1])
        self.assertIs(type(place), tuple)
        for number in place[1:]:
            self.assert_number(roots, number)
        others = [drawing.place(name) for name in step_of(row).needs()]
        if words[0] == "point":
            wanted = tuple(lifted(fraction_read(word), len(roots)) for word in words[2:])
            self.assertEqual(place, ("point",) + wanted)
        elif words[0] == "line":
            self.assert_line(roots, place, others)
        elif words[0] == "ring":
            square = (lifted(fraction_read(words[4]), len(roots)) if len(words) == 5
                      else far_by_hand(roots, others[0][1:], others[1][1:]))
            self.assertEqual(place, ("ring",) + others[0][1:] + (square,))
        else:
            self.assertEqual((place[0], len(place)), ("point", 3))
            for other in others:
                self.assert_on(roots, other, place)
            if len(words) == 5:
                self.assert_order(roots, place, others, words[4])

    def assert_line(self, roots, place, others):
        self.assertEqual((place[0], len(place)), ("line", 4))
        for other in others:
            self.assertEqual(left_of_line(roots, place[1:], other[1:]), whole(roots, 0))
        a, b = place[1:3]
        ahead = b if not any(a[0]) else a
        self.assertIn(ahead, [whole(roots, 1), whole(roots, -1)])
        e, f = less(others[1][1], others[0][1]), less(others[1][2], others[0][2])
        self.assertEqual(sign_of(roots, less(product_of(roots, e, b), product_of(roots, f, a))), 1)

    def assert_on(self, roots, other, place):
        if other[0] == "line":
            self.assertEqual(left_of_line(roots, other[1:], place[1:]), whole(roots, 0))
        else:
            self.assertEqual(far_by_hand(roots, other[1:], place[1:]), other[3])

    def assert_order(self, roots, place, others, word):
        """The first meet is not behind the middle as the line goes; of two rings it is not at the right."""
        if others[0][0] == "line":
            told = -along(roots, others[0][1:], others[1][1:], place[1:])
        else:
            told = sign_of(roots, turn(roots, others[0][1:3], others[1][1:3], place[1:]))
        self.assertGreaterEqual(told if word == "first" else -told, 0)

    def assert_drawing(self, rows):
        """Row by row: the scaffold stays or gets one root behind, all places are as told, those before lifted."""
        drawing = Drawing()
        for at, row in enumerate(rows):
            before, places = drawing.roots(), [drawing.place(name) for name in names_in(drawing)]
            self.assertIsNone(drawing.add(row))
            self.assertEqual(drawing.rows(), rows[:at + 1])
            many = len(drawing.roots())
            self.assertIn(many - len(before), (0, 1))
            self.assertEqual(drawing.roots()[:len(before)], before)
            self.assertTrue(is_scaffold(drawing.roots()))
            if len(row.split(" ")) == 4 or row.startswith("ring"):
                self.assertEqual(drawing.roots(), before)
            again = [drawing.place(name) for name in names_in(drawing)]
            self.assertEqual(again[:-1], [raised(place, many) for place in places])
            for done in drawing.rows():
                self.assert_place(drawing, done)
        return drawing

    def assert_stays(self, kind, drawing, thing):
        """A row is refused, and all is as before; another row is done as if nothing had been."""
        before = seen(drawing)
        refusal = self.assert_refused(kind, drawing.add, thing)
        self.assertEqual(seen(drawing), before)
        other = drawn(before[0])
        self.assertEqual(seen(other), before)
        return refusal

    def assert_named(self, kind, name, drawing, row):
        self.assertEqual(self.assert_stays(kind, drawing, row).name, name)


class Told(Drawings):
    def test_a_drawing_without_rows(self):
        drawing = Drawing()
        self.assertEqual((drawing.rows(), drawing.roots()), ([], ()))
        self.assertEqual(self.assert_refused(NoName, drawing.place, "a").name, "a")
        self.assertEqual(seen(drawn([])), ([], (), []))

    def test_each_kind_of_row(self):
        drawing = drawn(["point a 0 0", "point b 6/2 8/2", "line l a b", "ring r a b", "ring s b by 50/2",
                         "point c 1 0", "point d 1 -1", "line k c d", "meet m l k", "meet e l r second",
                         "meet f l r first", "meet g r s first", "meet h r s second"])
        one = ((4, 0), 1)
        self.assertEqual(drawing.place("a"), ("point", ((0, 0), 1), ((0, 0), 1)))
        self.assertEqual(drawing.place("b"), ("point", ((3, 0), 1), one))
        self.assertEqual(drawing.place("l"), ("line", ((-1, 0), 1), ((3, 0), 4), ((0, 0), 1)))
        self.assertEqual(drawing.place("r"), ("ring", ((0, 0), 1), ((0, 0), 1), ((25, 0), 1)))
        self.assertEqual(drawing.place("s"), ("ring", ((3, 0), 1), one, ((25, 0), 1)))
        self.assertEqual(drawing.place("k"), ("line", ((1, 0), 1), ((0, 0), 1), ((1, 0), 1)))
        self.assertEqual(drawing.place("m"), ("point", ((1, 0), 1), ((4, 0), 3)))
        self.assertEqual(drawing.place("e"), ("point", ((3, 0), 1), one))
        self.assertEqual(drawing.place("f"), ("point", ((-3, 0), 1), ((-4, 0), 1)))
        self.assertEqual(len(drawing.roots()), 1)
        self.assertEqual(drawing.rows()[1], "point b 3 4")
        self.assertEqual(drawing.rows()[4], "ring s b by 25")

    def test_the_sixth_of_a_round(self):
        drawing = drawn(SIXTH)
        self.assertEqual(drawing.roots(), ((12,),))
        self.assertEqual(drawing.place("c"), ("point", ((1, 0), 2), ((0, 1), 4)))
        self.assertEqual(drawing.place("d"), ("point", ((1, 0), 2), ((0, -1), 4)))
        self.assertEqual(drawing.place("g"), ("point", ((2, 0), 1), ((-1, 0), 3)))

    def test_drawings_of_none_to_three_roots(self):
        told = [len(self.assert_drawing(rows).roots()) for rows in DRAWINGS]
        self.assertEqual(told, [0, 1, 2, 3, 3])

    def test_roots_put_in_by_lines_and_by_rings(self):
        grown = {"line": 0, "ring": 0}
        for rows in DRAWINGS:
            drawing = Drawing()
            for row in rows:
                many = len(drawing.roots())
                drawing.add(row)
                if len(drawing.roots()) > many:
                    grown[drawing.place(row.split(" ")[2])[0]] += 1
        self.assertGreaterEqual(min(grown.values()), 3)

    def test_the_roots_are_those_of_the_meets(self):
        for rows in DRAWINGS:
            drawing = Drawing()
            for row in rows:
                words = row.split(" ")
                wanted = drawing.roots()
                if words[0] == "meet" and len(words) == 5:
                    one, other = drawing.place(words[2]), drawing.place(words[3])
                    meeting = meets_of_line if one[0] == "line" else meets_of_rings
                    wanted, places = meeting(drawing.roots(), one[1:], other[1:])
                    drawing.add(row)
                    self.assertEqual(drawing.place(words[1])[1:], places[0 if words[4] == "first" else -1])
                else:
                    drawing.add(row)
                self.assertEqual(drawing.roots(), wanted)

    def test_where_both_meets_are_one_point(self):
        rows = ["point a 0 0", "point b 0 5", "point c 1 5", "ring r a by 25", "line l b c", "point d 10 0",
                "ring s d by 25", "ring t b a"]
        for pair in ["l r", "r s"]:
            drawing = drawn(rows + [f"meet m {pair} first", f"meet n {pair} second"])
            self.assertEqual(drawing.place("m"), drawing.place("n"))
            self.assertEqual(drawing.roots(), ())
        self.assertEqual(drawn(rows + ["meet m l r second"]).place("m"), ("point", ((0,), 1), ((5,), 1)))
        self.assertEqual(drawn(rows + ["meet m r s second"]).place("m"), ("point", ((5,), 1), ((0,), 1)))
        touched = drawn(["point a 0 0", "point b 1 1", "point c 2 0", "point d 2 2", "line l b c", "ring r a by 2",
                         "meet m l r first", "meet n l r second", "ring s d b", "meet o r s first",
                         "meet p r s second"])
        self.assertEqual(touched.roots(), ())
        for name in "mnop":
            self.assertEqual(touched.place(name), touched.place("b"))

    def test_where_both_meets_are_one_point_over_roots(self):
        rows = HALVED + ["ring rj j d", "line jd j d", "meet x jd rj second", "meet y jd rj first", "ring rx x j"]
        drawing = drawn(rows)
        self.assertEqual(drawing.place("x"), drawing.place("d"))
        self.assertNotEqual(drawing.place("x"), drawing.place("y"))
        touched = drawn(SIXTH + ["ring u g by 1/9", "meet m ab u first", "meet n ab u second"])
        self.assertEqual(touched.place("m"), ("point", ((2, 0), 1), ((0, 0), 1)))
        self.assertEqual(touched.place("m"), touched.place("n"))
        touched = drawn(SIXTH + ["point h 4 0", "ring u a h", "line cut a c", "meet m cut u second", "ring w m by 9",
                                 "meet n w r first", "meet o w r second", "meet p r w second"])
        for name in "nop":
            self.assertEqual(touched.place(name), touched.place("c"))
        self.assertEqual(touched.roots(), ((12,),))

    def test_a_meet_that_is_a_point_of_the_drawing(self):
        drawing = drawn(["point a 1 0", "point b 0 0", "point c 7/3 5", "ring r a c", "ring s b c", "meet d r s first",
                         "meet e r s second", "line l c d", "line k b c", "meet f k r second", "meet g k r first"])
        self.assertEqual(drawing.roots(), ())
        self.assertIn(drawing.place("c"), [drawing.place("d"), drawing.place("e")])
        self.assertIn(drawing.place("c"), [drawing.place("f"), drawing.place("g")])

    def test_a_root_that_is_there_is_not_put_in_again(self):
        drawing = drawn(SIXTH)
        for row in ["ring u a by 3", "ring w b by 4", "meet m u w first", "meet n u w second", "line x a c",
                    "meet p x u first", "ring y g by 1/3"]:
            drawing.add(row)
            self.assertEqual(drawing.roots(), ((12,),))

    def test_first_points_behind_roots(self):
        drawing = drawn(HALVED + ["point p 5/10 -7", "point q 0 0", "ring z q by 9/4", "line pq p q"])
        nought = (0,) * 7
        self.assertEqual(drawing.place("p"), ("point", ((1,) + nought, 2), ((-7,) + nought, 1)))
        self.assertEqual(drawing.place("z")[3], ((9,) + nought, 4))
        self.assertEqual(drawing.rows()[-4:], ["point p 1/2 -7", "point q 0 0", "ring z q by 9/4", "line pq p q"])

    def test_names_that_are_words(self):
        rows = ["point point 0 0", "point by 4 0", "line line point by", "ring ring by point", "ring by by by"]
        drawing = drawn(rows[:4])
        self.assert_named(Twice, "by", drawing, rows[4])
        drawing.add("meet meet line ring first")
        drawing.add("ring first by by 4")
        drawing.add("meet second line first second")
        self.assertEqual(drawing.place("meet"), ("point", ((0,), 1), ((0,), 1)))
        self.assertEqual(drawing.place("second"), ("point", ((6,), 1), ((0,), 1)))

    def test_place_refuses_names_that_are_not_there(self):
        for rows in DRAWINGS:
            drawing = drawn(rows)
            for name in ["zz", "", "A", "point", "abcdefg", "a b", "a "]:
                self.assertEqual(self.assert_refused(NoName, drawing.place, name).name, name)


class OwnLists(Drawings):
    def test_rows_are_a_new_list_each_time(self):
        drawing = drawn(SIXTH)
        told = drawing.rows()
        self.assertIs(type(told), list)
        told.append("point z 1 2")
        told[0] = "point y 1 2"
        self.assertEqual(drawing.rows(), SIXTH)
        kept = drawing.rows()
        drawing.add("point z 1 2")
        self.assertEqual(kept, SIXTH)
        self.assertEqual(drawing.rows(), SIXTH + ["point z 1 2"])

    def test_the_list_handed_in_stays_and_may_be_changed_afterwards(self):
        rows = list(MIXED)
        drawing = drawn(rows)
        self.assertEqual(rows, MIXED)
        before = seen(drawing)
        rows.clear()
        self.assertEqual(seen(drawing), before)
        rows.extend(["point a 5 5", "point b 6 6"])
        self.assertEqual(seen(drawing), before)

    def test_two_drawings_side_by_side(self):
        one, other = Drawing(), Drawing()
        one.add("point a 1 2")
        self.assertEqual(other.rows(), [])
        other.add("point a 3 4")
        other.add("point b 3 5")
        self.assertEqual(one.rows(), ["point a 1 2"])
        self.assertEqual(one.place("a"), ("point", ((1,), 1), ((2,), 1)))
        self.assert_refused(NoName, one.place, "b")

    def test_what_was_told_stays_when_roots_are_put_in(self):
        drawing = drawn(SIXTH[:4])
        place, roots = drawing.place("a"), drawing.roots()
        drawing.add(SIXTH[4])
        self.assertEqual((place, roots), (("point", ((0,), 1), ((0,), 1)), ()))
        self.assertEqual(drawing.place("a"), ("point", ((0, 0), 1), ((0, 0), 1)))


class Drawn(Drawings):
    def test_refused_as_the_first_row_that_is(self):
        good = ["point a 0 0", "point b 1 0"]
        refusals = [("line l a a", NoLine), ("ring r a by 0", NoRing), ("point a 1 1", Twice), ("line l a c", NoName),
                    ("point", NoRow), (None, NoRow), (7, NoRow), (("point a 0 0",), NoRow), (Thorn(), NoRow)]
        for thing, kind in refusals:
            self.assert_refused(kind, drawn, good + [thing])
            for later, _ in refusals:
                self.assert_refused(kind, drawn, good + [thing, later])
                self.assert_refused(kind, drawn, good + [thing] + good + [later])
            self.assert_refused(kind, drawn, good + ["line k a b", thing])

    def test_refused_by_a_row_whose_point_comes_later(self):
        refusal = self.assert_refused(NoName, drawn, ["point a 0 0", "line l a b", "point b 1 1"])
        self.assertEqual(refusal.name, "b")

    def test_the_list_stays_where_it_is_refused(self):
        rows = ["point a 0 0", None, "point a 1 1"]
        self.assert_refused(NoRow, drawn, rows)
        self.assertEqual(rows, ["point a 0 0", None, "point a 1 1"])

    def test_row_by_row_it_is_the_same(self):
        for rows in DRAWINGS:
            drawing = Drawing()
            for row in rows:
                drawing.add(row)
            self.assertEqual(seen(drawn(rows)), seen(drawing))


FULL_POINTS = [f"point p{letter} {at} {at * at}" for at, letter in enumerate("abcdef")]
FULL_OTHERS = [f"ring r{letter} pa by {at + 1}" for at, letter in enumerate("abcdefghijklmnopqrst")]


class RefusedAlone(Drawings):
    def test_no_row(self):
        for rows in DRAWINGS:
            drawing = drawn(rows)
            for thing in NO_TEXTS + ["", "point", "point z 1", "line z", "meet z a b third", "ring z a by x",
                                     "point Z 1 2", "point z 1 2 ", step_of("point z 1 2"), ["point z 1 2"]]:
                self.assert_stays(NoRow, drawing, thing)

    def test_too_many_first_points(self):
        drawing = drawn(FULL_POINTS)
        self.assert_stays(TooMany, drawing, "point z 9 9")
        drawing.add("line z pa pb")
        self.assert_stays(TooMany, drawing, "point y 9 9")
        self.assertEqual(len(drawing.rows()), 7)

    def test_too_many_other_rows(self):
        drawing = drawn(FULL_POINTS[:2] + FULL_OTHERS)
        for row in ["ring z pa by 1", "line z pa pb", "ring z pa pb", "meet z ra rb", "meet z ra rb first"]:
            self.assert_stays(TooMany, drawing, row)
        drawing.add("point z 9 9")
        self.assertEqual(len(drawing.rows()), 23)

    def test_both_full(self):
        drawing = drawn(FULL_POINTS + FULL_OTHERS)
        self.assertEqual(len(drawing.rows()), 26)
        self.assert_stays(TooMany, drawing, "point z 9 9")
        self.assert_stays(TooMany, drawing, "ring z pa by 1")

    def test_meets_and_lines_count_among_the_other_rows(self):
        rows = ["point a 0 0", "point b 1 0", "point c 0 1"]
        for at, letter in enumerate("abcde"):
            rows.extend([f"line l{letter} a b", f"ring r{letter} a b", f"meet m{letter} l{letter} r{letter} first",
                         f"ring s{letter} a by {at + 1}"])
        drawing = drawn(rows)
        self.assertEqual(len(drawing.rows()), 23)
        self.assert_stays(TooMany, drawing, "line z a b")
        drawing.add("point z 5 5")

    def test_twice(self):
        for rows in DRAWINGS:
            drawing = drawn(rows)
            for name in names_in(drawing):
                self.assert_named(Twice, name, drawing, f"point {name} 1 1")
                self.assert_named(Twice, name, drawing, f"ring {name} zz by 1")
        drawing = drawn(PLAIN)
        for row in ["line a a b", "ring a a b", "ring a b by 2", "meet a ab cd", "meet a ab r first",
                    "meet a r s second"]:
            self.assert_named(Twice, "a", drawing, row)

    def test_no_name(self):
        drawing = drawn(PLAIN)
        for row in ["line zz a nn", "line zz nn a", "ring zz nn b", "ring zz b nn", "ring zz nn by 3", "meet zz nn ab",
                    "meet zz ab nn", "meet zz nn r first", "meet zz r nn first", "meet zz ab nn second"]:
            self.assert_named(NoName, "nn", drawing, row)
        self.assert_named(NoName, "zz", drawing, "line zz zz a")
        self.assert_named(NoName, "zz", drawing, "ring zz a zz")
        self.assert_named(NoName, "mm", drawing, "line zz mm nn")

    def test_no_kind(self):
        drawing = drawn(PLAIN)
        for row, name in [("line z ab a", "ab"), ("line z a ab", "ab"), ("line z r a", "r"), ("line z a r", "r"),
                          ("ring z ab a", "ab"), ("ring z a ab", "ab"), ("ring z r a", "r"), ("ring z a r", "r"),
                          ("ring z ab by 1", "ab"), ("ring z r by 1", "r"), ("meet z a ab", "a"), ("meet z ab a", "a"),
                          ("meet z ab r", "r"), ("meet z r ab", "r"), ("meet z r s", "r"), ("meet z a b", "a"),
                          ("meet z a r first", "a"), ("meet z ab a second", "a"), ("meet z r a first", "a"),
                          ("meet z ab cd first", "cd"), ("meet z ab ab second", "ab"), ("meet z r ab first", "ab"),
                          ("meet z a ab first", "a"), ("meet z a b second", "a")]:
            self.assert_named(NoKind, name, drawing, row)

    def test_no_line(self):
        for rows in DRAWINGS:
            drawing = drawn(rows)
            self.assert_stays(NoLine, drawing, "line z a a")
        self.assert_stays(NoLine, drawn(PLAIN), "line z g i")
        self.assert_stays(NoLine, drawn(SIXTH), "line z b f")
        self.assert_stays(NoLine, drawn(HALVED), "line z o e")

    def test_no_ring(self):
        for rows in DRAWINGS:
            drawing = drawn(rows)
            for row in ["ring z a a", "ring z a by 0", "ring z a by -0", "ring z a by -0/5", "ring z a by -1",
                        "ring z a by -1/" + "9" * 60]:
                self.assert_stays(NoRing, drawing, row)
            drawing.add("ring z a by 1/" + "9" * 60)
        self.assert_stays(NoRing, drawn(SIXTH), "ring z f b")
        self.assert_stays(NoRing, drawn(HALVED), "ring z e o")

    def refused_with(self, number, drawing, row):
        told = self.assert_stays(NoMeet, drawing, row).number
        self.assert_number(drawing.roots(), told)
        self.assertEqual(told, number)

    def test_no_meet(self):
        drawing = drawn(PLAIN + ["line fi f i", "ring w b by 1/4"])
        for row in ["meet z ab ab", "meet z ab cf", "meet z cf ab", "meet z cf fi"]:
            self.refused_with(((0,), 1), drawing, row)
        for row in ["meet z r r first", "meet z s t second", "meet z t w first"]:
            self.refused_with(((0,), 1), drawing, row)
        self.refused_with(((-63,), 4), drawing, "meet z cf w first")
        self.refused_with(((-63,), 4), drawing, "meet z cf w second")
        told = self.assert_stays(NoMeet, drawing, "meet z r w first").number
        self.assertEqual(sign_of((), told), -1)
        drawing = drawn(HALVED + ["ring far c by 1/100"])
        told = self.assert_stays(NoMeet, drawing, "meet z oe far first").number
        self.assert_number(drawing.roots(), told)
        self.assertEqual(sign_of(drawing.roots(), told), -1)
        self.refused_with(whole(drawing.roots(), 0), drawing, "meet z oc oc")
        self.refused_with(whole(drawing.roots(), 0), drawing, "meet z ra ra first")

    def test_no_room(self):
        for rows in [HALVED, MIXED]:
            drawing = drawn(rows)
            for row in ["ring w a by 7/11", "point p 1 1/5", "line ap a p", "ring y p by 5/7"]:
                drawing.add(row)
            for row in ["meet z ap w first", "meet z ap w second", "meet z w y first", "meet z y w second"]:
                self.assert_stays(NoRoom, drawing, row)

    def test_with_three_roots_what_needs_no_further_one_is_done(self):
        drawing = drawn(HALVED)
        self.assertEqual(len(drawing.roots()), 3)
        for row in ["point p 1 1/5", "line ap a p", "ring y p a"]:
            drawing.add(row)
        drawing.add("meet z ap y first")
        self.assertEqual(drawing.place("z"), drawing.place("a"))

    def test_behind_a_refusal_a_row_more_is_done(self):
        for rows in DRAWINGS:
            first = rows[0].split(" ")[1]
            wrong = [None, "point", f"point {first} 1 1", f"line z {first} nn", f"ring z {first} {first}",
                     f"line z {first} {first}", f"ring z {first} by -1", f"meet z {first} {first} first"]
            drawing = drawn(rows[:1])
            for at, row in enumerate(rows[1:], 1):
                for thing in wrong:
                    with self.assertRaises(ValueError):
                        drawing.add(thing)
                    self.assertEqual(drawing.rows(), rows[:at])
                drawing.add(row)
                self.assertEqual(seen(drawing), seen(drawn(rows[:at + 1])))


class Order(Drawings):
    def test_no_row_ahead_of_too_many(self):
        drawing = drawn(FULL_POINTS + FULL_OTHERS)
        for thing in ["point z 1", "point z 1 2 3", "line z pa", "ring z pa by x", "meet z ra rb third", None, []]:
            self.assert_stays(NoRow, drawing, thing)

    def test_too_many_ahead_of_twice(self):
        drawing = drawn(FULL_POINTS + FULL_OTHERS)
        for row in ["point pa 1 2", "ring ra pa by 1", "line pa pa pb", "line ra nn nn", "meet ra ra ra"]:
            self.assert_stays(TooMany, drawing, row)

    def test_too_many_ahead_of_what_comes_behind_twice(self):
        drawing = drawn(FULL_POINTS + FULL_OTHERS)
        for row in ["line z nn pa", "line z ra pa", "line z pa pa", "ring z pa by -1", "meet z ra ra first"]:
            self.assert_stays(TooMany, drawing, row)

    def test_twice_ahead_of_no_name_and_no_kind(self):
        drawing = drawn(PLAIN)
        for row in ["line a nn a", "line a ab a", "ring a nn by 1", "ring a r by -1", "meet a nn mm",
                    "meet a nn mm first", "line a a a", "ring a a by 0", "meet a r r first", "line a nn nn"]:
            self.assert_named(Twice, "a", drawing, row)

    def test_names_from_the_left(self):
        drawing = drawn(PLAIN)
        for row, kind, name in [
            ("line z ab nn", NoKind, "ab"), ("line z nn ab", NoName, "nn"), ("ring z r nn", NoKind, "r"),
            ("ring z nn r", NoName, "nn"), ("meet z a nn", NoKind, "a"), ("meet z nn a", NoName, "nn"),
            ("meet z r nn", NoKind, "r"), ("meet z a nn first", NoKind, "a"), ("meet z nn a first", NoName, "nn"),
            ("meet z ab nn first", NoName, "nn"), ("meet z r nn first", NoName, "nn"), ("line z ab r", NoKind, "ab"),
            ("line z mm nn", NoName, "mm"), ("meet z r a", NoKind, "r"), ("meet z ab cd second", NoKind, "cd"),
            ("meet z nn cd second", NoName, "nn"), ("meet z a cd second", NoKind, "a"), ("meet z g nn", NoKind, "g"),
        ]:
            self.assert_named(kind, name, drawing, row)

    def test_names_ahead_of_what_they_make(self):
        drawing = drawn(PLAIN)
        self.assert_named(NoName, "nn", drawing, "ring z nn by -1")
        self.assert_named(NoKind, "ab", drawing, "ring z ab by 0")
        self.assert_named(NoKind, "ab", drawing, "meet z ab ab first")
        self.assert_named(NoKind, "ab", drawing, "line z ab ab")
        self.assert_named(NoKind, "r", drawing, "ring z r r")
        self.assert_named(NoKind, "r", drawing, "meet z r r")

    def test_no_meet_ahead_of_no_room(self):
        drawing = drawn(HALVED + ["ring w a by 7/11", "point p 1 50", "point q 2 51", "line pq p q", "ring y p by 5/7"])
        self.assert_stays(NoMeet, drawing, "meet z pq w first")
        self.assert_stays(NoMeet, drawing, "meet z w y first")
        self.assert_stays(NoMeet, drawing, "meet z w w first")


TEN = 10 ** 59


def steep_rows(top):
    """p lies at (x, x * top * 10 ** 59), x being 10 ** 32: with the top 10 ** 59 its y is 10 ** 150."""
    return ["point o 0 0", f"point a 1/{TEN} {top}", f"point b {10 ** 32} 0", f"point c {10 ** 32} 1", "line l o a",
            "line m b c", "meet p l m"]


def figures_of(numbers):
    return max(len(str(abs(n))) for number in numbers for n in number[0] + (number[1],))


class Great(Drawings):
    def test_the_rows_come_to_what_they_are_made_for(self):
        self.assertEqual(drawn(steep_rows(TEN)).place("p"), ("point", ((10 ** 32,), 1), ((10 ** 150,), 1)))

    def test_a_top_of_three_hundred_figures_and_of_one_more(self):
        drawing = drawn(steep_rows(TEN) + ["ring k p by 1", "meet q m k first", "meet s m k second"])
        self.assertEqual([drawing.place(name)[2][0][0] - 10 ** 150 for name in "qps"], [-1, 0, 1])
        self.assert_stays(TooGreat, drawing, "ring r b p")
        self.assert_stays(TooGreat, drawing, "ring r b s")
        self.assert_stays(TooGreat, drawing, "ring r o p")
        drawing.add("ring r b q")
        self.assertEqual(drawing.place("r")[3], (((10 ** 150 - 1) ** 2,), 1))
        self.assertEqual(figures_of(drawing.place("r")[1:]), 300)

    def test_a_bottom_of_three_hundred_figures_and_of_one_more(self):
        for top in [TEN, TEN - 1]:
            drawing = drawn(["point o 0 0", f"point a {top} 1/{TEN}", f"point b 1/{10 ** 32} 0",
                             f"point c 1/{10 ** 32} 1", "line l o a", "line m b c", "meet p l m"])
            self.assertEqual(drawing.place("p")[2], ((1,), top * TEN * 10 ** 32))
            if top == TEN:
                self.assert_stays(TooGreat, drawing, "ring r b p")
            else:
                drawing.add("ring r b p")
                self.assertEqual(drawing.place("r")[3], ((1,), (top * TEN * 10 ** 32) ** 2))
                self.assertEqual(figures_of(drawing.place("r")[1:]), 300)

    def second_meet(self, span):
        """The line through p and (span, 0) meets the ring about o through (span, 0) once more."""
        drawing = drawn(steep_rows(TEN - 1) + [f"point e {span} 0", "ring r o e", "line n e p"])
        steep, wide = 10 ** 150 - 10 ** 91, 10 ** 32 - span
        top, bottom = span * (steep * steep - wide * wide), steep * steep + wide * wide
        return drawing, lowest([top], bottom)

    def test_a_top_below_nought_and_above(self):
        # The one meet is (span, 0) itself, the other one has the steepness of the line squared in its x.
        for span, word, figures in [(-1, "second", 300), (2, "first", 300)]:
            drawing, x = self.second_meet(span)
            drawing.add(f"meet z n r {word}")
            self.assertEqual(drawing.place("z")[1], x)
            self.assertEqual(figures_of([x]), figures)
        for span, word, other in [(-3, "second", "first"), (3, "first", "second")]:
            drawing, x = self.second_meet(span)
            self.assertEqual((len(str(abs(x[0][0]))), len(str(x[1]))), (301, 300))
            self.assert_stays(TooGreat, drawing, f"meet z n r {word}")
            # The meet that is told counts alone.
            drawing.add(f"meet z n r {other}")
            self.assertEqual(drawing.place("z"), drawing.place("e"))

    def test_the_first_meet_told_and_not_the_second(self):
        drawing = drawn(steep_rows(TEN) + ["point e 7 0", "ring r o e", "line n p e"])
        self.assert_stays(TooGreat, drawing, "meet z n r second")
        drawing.add("meet z n r first")
        self.assertEqual(drawing.place("z"), drawing.place("e"))

    def test_a_line(self):
        drawing, _ = self.second_meet(1)
        drawing.add("meet z n r first")
        done = 0
        for one, other in ["ze", "zc", "ez", "zo", "za", "ac", "pe", "ca"]:
            line = line_of((), drawing.place(one)[1:], drawing.place(other)[1:])
            if figures_of(line) > 300:
                self.assert_stays(TooGreat, drawing, f"line y {one} {other}")
                done += 1
            else:
                drawing.add(f"line x{one}{other} {one} {other}")
                self.assertEqual(drawing.place(f"x{one}{other}"), ("line",) + line)
        self.assertIn(done, range(1, 8))

    def test_a_meet_of_lines(self):
        most, other = 10 ** 60 - 1, 10 ** 60 - 7
        drawing = drawn([f"point a 1/{most} {other}", f"point b {most}/{other} 5/{10 ** 60 - 3}",
                         f"point c {most} 1/{10 ** 59 + 1}", f"point d -7/{most} {most}/{10 ** 59 + 3}",
                         "line l a b", "line k c d"])
        wanted = meet_of_lines((), drawing.place("l")[1:], drawing.place("k")[1:])
        self.assertGreater(figures_of(wanted), 300)
        self.assert_stays(TooGreat, drawing, "meet z l k")

    def cut_ring(self, n):
        """A ring about o through (1/n, 1/(n + 1)), and a line along y = 0."""
        square = ((2 * n * n + 2 * n + 1,), (n * (n + 1)) ** 2)
        drawing = drawn(["point o 0 0", f"point a 1/{n} 1/{n + 1}", "point b 1 0", "line l o b", "ring r o a"])
        self.assertEqual(drawing.place("r")[3], square)
        return drawing, square[0][0] * square[1]

    def test_the_tuple_of_a_root(self):
        low, high = 10 ** 49, 10 ** 50
        while high - low > 1:
            n = (low + high) // 2
            if (2 * n * n + 2 * n + 1) * (n * (n + 1)) ** 2 < 10 ** 300:
                low = n
            else:
                high = n
        drawing, under = self.cut_ring(low)
        self.assertEqual(len(str(under)), 300)
        drawing.add("meet z l r first")
        self.assertEqual(drawing.roots(), ((under,),))
        self.assertLess(figures_of(drawing.place("z")[1:]), 210)
        drawing, under = self.cut_ring(high)
        self.assertEqual(len(str(under)), 301)
        for row in ["meet z l r first", "meet z l r second"]:
            self.assert_stays(TooGreat, drawing, row)
        drawing.add("ring s o by 2")
        drawing.add("meet z l s first")
        self.assertEqual(drawing.roots(), ((2,),))
        self.assert_stays(TooGreat, drawing, "meet y l r first")

    def test_what_comes_ahead_of_too_great(self):
        drawing, _ = self.cut_ring(10 ** 59)
        self.assert_stays(TooGreat, drawing, "meet z l r first")
        for row in ["ring s b by 2", "meet e l s first", "ring t b by 3", "meet f l t first", "ring u b by 5",
                    "meet g l u first"]:
            drawing.add(row)
        self.assertEqual(len(drawing.roots()), 3)
        self.assert_stays(NoRoom, drawing, "meet z l r first")
        drawing = drawn(steep_rows(TEN) + ["ring k o by 1", "ring j p by 1"])
        self.assert_stays(NoMeet, drawing, "meet z m k first")
        self.assert_stays(NoMeet, drawing, "meet z k j first")
        self.assert_named(Twice, "a", drawing, "ring a b p")
        self.assert_named(NoKind, "m", drawing, "ring z m p")


class Judged(Drawings):
    """Rows by chance, most of them wrong in some way, against a second reading of [27]."""

    def due(self, drawing, row):
        """The class of the refusal that is due and its name, or None and the place that is wanted."""
        if ROW.fullmatch(row) is None:
            return (NoRow, None)
        words, rows = row.split(" "), drawing.rows()
        firsts = len([one for one in rows if one.startswith("point ")])
        if firsts == 6 if words[0] == "point" else len(rows) - firsts == 20:
            return (TooMany, None)
        if words[1] in names_in(drawing):
            return (Twice, words[1])
        if words[0] == "point":
            return (None, ("point",) + tuple(lifted(fraction_read(word), len(drawing.roots())) for word in words[2:]))
        fault = self.due_by_names(drawing, words)
        return fault if fault is not None else self.due_by_places(drawing, words)

    def due_by_names(self, drawing, words):
        by = len(words) == 5 and words[0] == "ring"
        wanted = {("line", 4): ["point", "point"], ("ring", 4): ["point", "point"], ("ring", 5): ["point"],
                  ("meet", 4): ["line", "line"], ("meet", 5): ["line ring", "ring"]}[(words[0], len(words))]
        for name, kinds in zip(words[2:3] if by else words[2:4], wanted):
            if name not in names_in(drawing):
                return (NoName, name)
            if drawing.place(name)[0] not in kinds.split(" "):
                return (NoKind, name)
        return None

    def due_by_places(self, drawing, words):
        roots = drawing.roots()
        one = drawing.place(words[2])[1:]
        try:
            if words[0] == "ring" and len(words) == 5:
                wide, told = roots, ring_about(roots, one, lifted(fraction_read(words[4]), len(roots)))
            else:
                wide, told = self.wanted(drawing, words, one, drawing.place(words[3])[1:])
        except ValueError as refusal:
            return (type(refusal), None)
        if figures_of(told) > 300 or any(len(str(abs(n))) > 300 for under in wide[len(roots):] for n in under):
            return (TooGreat, None)
        return (None, (words[0] if words[0] != "meet" else "point",) + told)

    def wanted(self, drawing, words, one, other):
        roots = drawing.roots()
        if words[0] == "line":
            return roots, line_of(roots, one, other)
        if words[0] == "ring":
            return roots, ring_through(roots, one, other)
        if len(words) == 4:
            return roots, meet_of_lines(roots, one, other)
        meeting = meets_of_line if drawing.place(words[2])[0] == "line" else meets_of_rings
        wide, places = meeting(roots, one, other)
        return wide, places[0 if words[4] == "first" else -1]

    def judged(self, seed, most, many, counts):
        wheel, drawing = Wheel(seed), Drawing()
        for _ in range(many):
            row = row_by_chance(wheel, drawing, most)
            kind, wanted = self.due(drawing, row)
            counts[kind] = counts.get(kind, 0) + 1
            if kind is None:
                self.assertIsNone(drawing.add(row))
                self.assertEqual(drawing.place(row.split(" ")[1]), wanted, row)
                self.assert_place(drawing, drawing.rows()[-1])
                continue
            before = seen(drawing)
            refusal = self.assert_refused(kind, drawing.add, row)
            self.assertEqual(seen(drawing), before)
            if wanted is not None:
                self.assertEqual(refusal.name, wanted)
        for row in drawing.rows():
            self.assert_place(drawing, row)
        self.assertTrue(is_scaffold(drawing.roots()))
        return len(drawing.roots())

    def test_rows_by_chance(self):
        counts, many = {}, []
        for seed in range(24):
            many.append(self.judged(seed, [4, 9, 30, 10 ** 40][seed % 4], 60, counts))
        for kind in [None, NoRow, TooMany, Twice, NoName, NoKind, NoLine, NoRing, NoMeet, NoRoom, TooGreat]:
            self.assertGreaterEqual(counts.get(kind, 0), 3, kind)
        self.assertEqual(set(many), {0, 1, 2, 3})


if __name__ == "__main__":
    unittest.main()
