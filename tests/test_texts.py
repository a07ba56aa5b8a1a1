"""[5] and [7]: fractions written as texts and read from them."""

import math
import unittest

from compasshall.errors import HallError, NoText
from compasshall.texts import fraction_read, fraction_text

SIXTY = "9" * 60
SIXTY_ONE = "9" * 61


def tops_to_try():
    tops = [0]
    for figures in range(1, 61):
        tops.extend([10 ** (figures - 1), 10 ** figures - 1, 10 ** figures // 7 + 1])
    return tops + [-top for top in tops]


def bottoms_to_try():
    return [1, 2, 3, 10, 12, 997] + [10 ** figures - 1 for figures in range(2, 61, 7)] + [10 ** 59, 10 ** 60 - 1]


class Reading(unittest.TestCase):
    def test_texts_that_are_read(self):
        told = {
            "0": (0, 1), "-0": (0, 1), "0/1": (0, 1), "0/7": (0, 1), "-0/7": (0, 1),
            "1": (1, 1), "-1": (-1, 1), "12": (12, 1), "10": (10, 1), "-3/4": (-3, 4), "3/4": (3, 4),
            "6/8": (3, 4), "-6/8": (-3, 4), "8/4": (2, 1), "-8/4": (-2, 1), "5/1": (5, 1), "5/5": (1, 1),
            "1/10": (1, 10), "100/10": (10, 1), "12345678/9": (12345678 // 9, 1), "90/1234567": (90, 1234567),
        }
        for text, (top, bottom) in told.items():
            with self.subTest(text):
                self.assertEqual(fraction_read(text), ((top,), bottom))

    def test_all_small_fractions_are_told_in_lowest_terms(self):
        for top in range(-24, 25):
            for bottom in range(1, 25):
                shared = math.gcd(top, bottom)
                told = fraction_read(f"{top}/{bottom}")
                self.assertEqual(told, ((top // shared,), bottom // shared))

    def test_what_is_told_is_a_tuple_of_a_tuple_and_a_whole_number(self):
        for text in ("0", "-0", "1", "-1", "1/1", "2/2", "-6/8", SIXTY + "/" + SIXTY):
            told = fraction_read(text)
            self.assertIs(type(told), tuple)
            self.assertEqual(len(told), 2)
            self.assertIs(type(told[0]), tuple)
            self.assertEqual(len(told[0]), 1)
            self.assertIs(type(told[0][0]), int)
            self.assertIs(type(told[1]), int)
            self.assertGreaterEqual(told[1], 1)

    def test_sixty_figures_are_read(self):
        great = int(SIXTY)
        self.assertEqual(fraction_read(SIXTY), ((great,), 1))
        self.assertEqual(fraction_read("-" + SIXTY), ((-great,), 1))
        self.assertEqual(fraction_read("1/" + SIXTY), ((1,), great))
        self.assertEqual(fraction_read("-" + SIXTY + "/" + SIXTY), ((-1,), 1))
        self.assertEqual(fraction_read("1" + "0" * 59), ((10 ** 59,), 1))
        self.assertEqual(fraction_read("0/" + SIXTY), ((0,), 1))


class Refusing(unittest.TestCase):
    def refused(self, text):
        with self.subTest(text):
            for taker in (NoText, HallError, ValueError):
                with self.assertRaises(taker):
                    fraction_read(text)
            try:
                fraction_read(text)
            except ValueError as refusal:
                self.assertIs(type(refusal), NoText)

    def all_refused(self, texts):
        for text in texts:
            self.refused(text)

    def test_nothing_and_signs(self):
        self.all_refused(["", "-", "+", "+1", "+0", "+1/2", "--1", "-+1", "+-1", "1-", "1+", "- 1", "-/1", "--"])

    def test_a_nought_ahead(self):
        self.all_refused(["00", "01", "-01", "-00", "007", "00/1", "01/2", "1/02", "1/01", "-1/007", "0" * 60, "0" + SIXTY])

    def test_a_bottom_of_nought(self):
        self.all_refused(["1/0", "0/0", "-1/0", "-0/0", "1/00", SIXTY + "/0"])

    def test_a_bottom_with_a_sign(self):
        self.all_refused(["1/-2", "1/+2", "-1/-2", "1/-0", "1/-"])

    def test_no_figures_beside_the_stroke(self):
        self.all_refused(["/", "-/", "1/", "-1/", "0/", "/1", "-/1", "/0"])

    def test_more_than_one_stroke(self):
        self.all_refused(["1/2/3", "1//2", "//", "/1/2", "1/2/", "1//", "-1/2/3", "1/1/1/1"])

    def test_blanks(self):
        self.all_refused([" ", " 1", "1 ", "1 2", "- 1", " -1", "1 /2", "1/ 2", "1/2 ", " 1/2", "1/2 3", "  "])

    def test_row_ends_and_their_like(self):
        self.all_refused(["1\n", "\n1", "1/2\n", "1\n/2", "\t1", "1\t", "1\r", "1\x00", "\x0b1", "1\u00a0", "\u20031"])

    def test_each_other_sign_in_each_place(self):
        for sign in [chr(code) for code in range(32, 127)]:
            if sign not in "0123456789-/":
                self.all_refused([sign, sign + "1", "1" + sign, "1" + sign + "2", "-" + sign + "1",
                                  "1/" + sign + "2", "1/2" + sign, "1" + sign + "/2", "1/2" + sign + "3"])

    def test_what_python_itself_would_read(self):
        self.all_refused(["1_0", "1/1_0", "1e3", "1.0", "0x1", "0b1", "1/2.0", "1,000", ".5", "inf", "nan"])

    def test_figures_of_other_scripts(self):
        for figure in ["\u0661", "\u0967", "\uff11", "\u00b2", "\u00bd", "\u2460", "\U0001d7cf", "\u0660"]:
            self.all_refused([figure, "1" + figure, figure + "1", "-" + figure, "1/" + figure, figure + "/2"])

    def test_strokes_and_signs_of_other_kinds(self):
        self.all_refused(["1\u20442", "1\u22152", "1\\2", "1:2", "\u22121", "\u20131"])

    def test_sixty_one_figures(self):
        self.all_refused([SIXTY_ONE, "-" + SIXTY_ONE, "1" + "0" * 60, SIXTY_ONE + "/1", "1/" + SIXTY_ONE,
                          "-1/" + SIXTY_ONE, SIXTY_ONE + "/" + SIXTY_ONE, "0/" + SIXTY_ONE, "9" * 299])

    def test_words(self):
        self.all_refused(["one", "a", "by", "None", "True", "1a", "a1"])


class Writing(unittest.TestCase):
    def test_ordinary_fractions(self):
        told = {
            "0": ((0,), 1), "1": ((1,), 1), "-1": ((-1,), 1), "12": ((12,), 1), "-12": ((-12,), 1),
            "-3/4": ((-3,), 4), "3/4": ((3,), 4), "1/10": ((1,), 10), "100": ((100,), 1), "-7/2": ((-7,), 2),
        }
        for text, number in told.items():
            self.assertEqual(fraction_text(number), text)

    def test_all_small_whole_numbers(self):
        for n in range(-300, 301):
            self.assertEqual(fraction_text(((n,), 1)), str(n))

    def test_runs_of_noughts(self):
        for k in (59, 60, 61, 119, 120, 121, 180):
            self.assertEqual(fraction_text(((10 ** k,), 1)), "1" + "0" * k)
            self.assertEqual(fraction_text(((-10 ** k - 5,), 1)), "-1" + "0" * (k - 1) + "5")
            self.assertEqual(fraction_text(((10 ** k - 1,), 1)), "9" * k)
            self.assertEqual(fraction_text(((3,), 10 ** k)), "3/1" + "0" * k)

    def test_numbers_greater_than_pythons_own_bound_for_texts(self):
        n = 10 ** 6000 + 1
        self.assertEqual(fraction_text(((n,), 1)), "1" + "0" * 5999 + "1")
        self.assertEqual(fraction_text(((-1,), n)), "-1/1" + "0" * 5999 + "1")
        self.assertEqual(fraction_text(((-10 ** 5000,), n)), "-1" + "0" * 5000 + "/1" + "0" * 5999 + "1")

    def test_what_is_handed_in_stays(self):
        number = ((-3,), 4)
        self.assertEqual(fraction_text(number), fraction_text(number))
        self.assertEqual(number, ((-3,), 4))


class ThereAndBack(unittest.TestCase):
    def test_written_and_read_back(self):
        for top in tops_to_try():
            for bottom in bottoms_to_try():
                shared = math.gcd(top, bottom)
                number = ((top // shared,), bottom // shared)
                self.assertEqual(fraction_read(fraction_text(number)), number)

    def test_read_and_written_in_lowest_terms(self):
        for top in tops_to_try():
            for bottom in bottoms_to_try():
                shared = math.gcd(top, bottom)
                lowest = str(top // shared)
                if bottom != shared:
                    lowest += "/" + str(bottom // shared)
                self.assertEqual(fraction_text(fraction_read(f"{top}/{bottom}")), lowest)

    def test_nought_is_written_in_one_way(self):
        for text in ("0", "-0", "0/1", "-0/1", "0/12", "-0/" + SIXTY):
            self.assertEqual(fraction_text(fraction_read(text)), "0")


if __name__ == "__main__":
    unittest.main()
