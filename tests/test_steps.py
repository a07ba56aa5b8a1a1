"""[25]: rows read and written."""

import unittest

from compasshall.errors import NoRow
from compasshall.steps import Step, step_of
from handy import GREAT, NO_TEXTS, Looks, Thorn

MOST = "9" * 60
WORDS = ["point", "line", "ring", "meet", "by", "first", "second"]

# A row, as it is written, its name, and the names that it needs.
ROWS = [
    ("point a 0 0", "point a 0 0", "a", []),
    ("point a 1 -2", "point a 1 -2", "a", []),
    ("point abcdef 3/4 -5/6", "point abcdef 3/4 -5/6", "abcdef", []),
    ("point z -6/8 12/4", "point z -3/4 3", "z", []),
    ("point z -0 -0/7", "point z 0 0", "z", []),
    ("point z 0/5 10/10", "point z 0 1", "z", []),
    (f"point z {MOST} -{MOST}/{MOST}", f"point z {MOST} -1", "z", []),
    (f"point z 1/{MOST} -2/{MOST}", f"point z 1/{MOST} -2/{MOST}", "z", []),
    ("line l a b", "line l a b", "l", ["a", "b"]),
    ("line l b a", "line l b a", "l", ["b", "a"]),
    ("line l a a", "line l a a", "l", ["a", "a"]),
    ("line l l l", "line l l l", "l", ["l", "l"]),
    ("ring r a b", "ring r a b", "r", ["a", "b"]),
    ("ring r b b", "ring r b b", "r", ["b", "b"]),
    ("ring r a by 4", "ring r a by 4", "r", ["a"]),
    ("ring r a by 6/4", "ring r a by 3/2", "r", ["a"]),
    ("ring r a by -0", "ring r a by 0", "r", ["a"]),
    ("ring r a by -10/4", "ring r a by -5/2", "r", ["a"]),
    ("ring r r by 1", "ring r r by 1", "r", ["r"]),
    ("meet m k l", "meet m k l", "m", ["k", "l"]),
    ("meet m l l", "meet m l l", "m", ["l", "l"]),
    ("meet m l r first", "meet m l r first", "m", ["l", "r"]),
    ("meet m l r second", "meet m l r second", "m", ["l", "r"]),
    ("meet m r r first", "meet m r r first", "m", ["r", "r"]),
    ("meet m m m second", "meet m m m second", "m", ["m", "m"]),
    # Names that are words of rows.
    ("point point 1 2", "point point 1 2", "point", []),
    ("line line line line", "line line line line", "line", ["line", "line"]),
    ("ring by by by", "ring by by by", "by", ["by", "by"]),
    ("ring r a by", "ring r a by", "r", ["a", "by"]),
    ("meet m k first", "meet m k first", "m", ["k", "first"]),
    ("ring by by by 2/2", "ring by by by 1", "by", ["by"]),
    ("ring ring point by 3", "ring ring point by 3", "ring", ["point"]),
    ("meet first second first", "meet first second first", "first", ["second", "first"]),
    ("meet first second first second", "meet first second first second", "first", ["second", "first"]),
    ("meet meet by first first", "meet meet by first first", "meet", ["by", "first"]),
]

FAULTS = """
point
point a
point a 1
point a 1 2 3
point a 1 b
point a b 1
point 1 2
point 1 2 3
point a 01 2
point a 1 2/0
point a 1 2/
point a 1 /2
point a +1 2
point a 1 --2
point a 1 2/03
point a 1 2/-3
point a 1/2/3 2
point a 1.5 2
point a 1 - 2
point a one two
point a by 3
point a first second
points a 1 2
Point a 1 2
line
line l
line l a
line l a b c
line l a 1
line l 1 a
line l a b first
line l a by 3
line 1 a b
lines l a b
ring
ring r
ring r a
ring r a b c
ring r a by 1 2
ring r a by b
ring r a at 1
ring r by 1
ring r 1 by 1
ring r 1 b
ring r a 1
ring r a By 1
ring r a by 1/0
ring r a by 00
ring r a b by 1
ring r a b first
rings r a b
meet
meet m
meet m k
meet m k first second third
meet m k l third
meet m k l First
meet m k l firsts
meet m k l 1
meet m k l by
meet m k l first second
meet m k 1
meet m 1 l
meet m k 1 first
meet m 1 l first
meet 1 k l
meets m k l
circle c a b
a point 1 2
undo
none
""".split("\n")


class Texts(Looks, unittest.TestCase):
    def test_rows_read_and_written(self):
        for row, written, name, needs in ROWS:
            with self.subTest(row=row):
                step = step_of(row)
                self.assertIsInstance(step, Step)
                self.assertIsNot(type(step), Step)
                self.assertEqual(step.text(), written)
                self.assertEqual(step.named(), name)
                self.assertEqual(step.needs(), needs)
                self.assertIs(type(step.needs()), list)

    def test_what_is_written_is_read_as_the_same(self):
        for row, written, name, needs in ROWS:
            again = step_of(written)
            self.assertEqual((again.text(), again.named(), again.needs()), (written, name, needs))

    def test_any_name_may_be_a_word(self):
        for name in WORDS:
            for other in WORDS:
                for row in [f"point {name} 1 2", f"line {name} {other} a", f"ring {name} {other} {name}",
                            f"ring {name} {other} by 3", f"meet {name} {other} {other}",
                            f"meet {name} {other} {name} first", f"meet {name} {name} {other} second"]:
                    step = step_of(row)
                    self.assertEqual((step.text(), step.named()), (row, name))

    def test_names_of_one_to_six_letters(self):
        for name in ["a", "z", "az", "abc", "wxyz", "hello", "zzzzzz"]:
            for row in [f"point {name} 1 2", f"line l {name} a", f"ring r a {name}", f"meet m {name} a first"]:
                self.assertEqual(step_of(row).text(), row)

    def test_needs_is_a_new_list_each_time(self):
        for row, written, name, needs in ROWS:
            step = step_of(row)
            step.needs().append("more")
            told = step.needs()
            told.clear()
            self.assertEqual(step.needs(), needs)
            self.assertEqual(step.text(), written)


class Refused(Looks, unittest.TestCase):
    def test_texts_that_are_no_rows(self):
        for text in FAULTS:
            with self.subTest(text=text):
                self.assert_refused(NoRow, step_of, text)

    def test_blanks_more_or_less(self):
        for row, written, name, needs in ROWS:
            words = row.split(" ")
            wrong = [" " + row, row + " ", "".join(words), "\t".join(words), row + "\n", "\n" + row, row + "\r",
                     row.replace(" ", "\n", 1), row.replace(" ", "\u00a0", 1), row + ";", "  ".join(words)]
            for at in range(1, len(words)):
                wrong.append(" ".join(words[:at]) + "  " + " ".join(words[at:]))
                # With a blank less, a row of five words may be another row.
                if len(words) == 4:
                    wrong.append(" ".join(words[:at]) + " ".join(words[at:]))
            for text in wrong:
                with self.subTest(text=text):
                    self.assert_refused(NoRow, step_of, text)

    def test_words_left_out_or_too_many(self):
        for row in ["point a 1 2", "line l a b", "ring r a by 3", "meet m a b first"]:
            words = row.split(" ")
            for many in range(4):
                self.assert_refused(NoRow, step_of, " ".join(words[:many]))
            self.assert_refused(NoRow, step_of, " ".join(words + words[-1:]))
            self.assert_refused(NoRow, step_of, " ".join(words + ["a"]))
            self.assert_refused(NoRow, step_of, " ".join(words[1:]))
            self.assert_refused(NoRow, step_of, " ".join([words[0].upper()] + words[1:]))

    def test_names_that_are_none(self):
        wrong = ["", "abcdefg", "A", "aB", "a1", "1", "a_b", "a-b", "-", "*", "a.", "\u00e4", "\u0430", "\u00df",
                 "\uff41", "a\n", "0", "a/b", "a" * 300]
        for name in wrong:
            for row in [f"point {name} 1 2", f"line {name} a b", f"line l {name} b", f"line l a {name}",
                        f"ring {name} a b", f"ring r {name} b", f"ring r a {name}", f"ring {name} a by 1",
                        f"ring r {name} by 1", f"meet {name} k l", f"meet m {name} l", f"meet m k {name}",
                        f"meet {name} k l first", f"meet m {name} l first", f"meet m k {name} second"]:
                with self.subTest(row=row):
                    self.assert_refused(NoRow, step_of, row)

    def test_fractions_that_are_none(self):
        wrong = ["", "-", "/", "1/", "/1", "1/0", "00", "01", "-01", "1/01", "+1", "1.0", "1e3", "--1", "1/-1", "1//2",
                 "1/2/3", "a", "\u0661", "\u00b2", "1_0", "0x1", " 1", "1\n", "1" + "0" * 60, "1/1" + "0" * 60,
                 "-1" + "0" * 60]
        for text in wrong:
            for row in [f"point a {text} 1", f"point a 1 {text}", f"ring r a by {text}"]:
                with self.subTest(row=row):
                    self.assert_refused(NoRow, step_of, row)

    def test_things_that_are_no_texts(self):
        for thing in NO_TEXTS:
            self.assert_refused(NoRow, step_of, thing)
        for thing in [["point a 1 2"], ("point a 1 2",), ["point", "a", "1", "2"], ("point", "a", "1", "2"),
                      {"point a 1 2": True}, b"point a 1 2", step_of("point a 1 2"), [step_of("line l a b")], GREAT,
                      Thorn(), [Thorn()]]:
            self.assert_refused(NoRow, step_of, thing)

    def test_the_empty_text_and_blanks(self):
        for text in ["", " ", "   ", "    ", "\n", "\t"]:
            self.assert_refused(NoRow, step_of, text)

    def test_long_texts(self):
        for text in ["a" * 300, "point a 1 " + "2" * 290, "point " * 50, " " * 300, "line l " + "a" * 293]:
            self.assert_refused(NoRow, step_of, text)


if __name__ == "__main__":
    unittest.main()
