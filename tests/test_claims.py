"""[3], [28], [29]: claims, their numbers, and when they are true."""

import unittest

from compasshall.claims import Claim, claim_of
from compasshall.drawings import Drawing, drawn
from compasshall.errors import NoClaim, NoKind, NoName
from handy import (DRAWINGS, FIFTH, GREAT, HALVED, MIXED, NO_TEXTS, PLAIN, SIXTH, Looks, Thorn, Wheel, far_by_hand,
                   left_of_line, less, names_in, product_of, sign_of, sum_of, turn, whole)

# How many names each claim has.
NAMES = {"same": 2, "on": 2, "even": 4, "longer": 4, "square": 4, "middle": 3, "left": 3, "row": 3, "corners": 6}
OF_POINTS = [word for word in NAMES if word != "on"]


def doubled(roots, x):
    return product_of(roots, whole(roots, 2), x)


def dot(roots, one, other, third, fourth):
    e = product_of(roots, less(other[0], one[0]), less(fourth[0], third[0]))
    return sum_of(e, product_of(roots, less(other[1], one[1]), less(fourth[1], third[1])))


def off_middle(roots, a, b, c):
    """2 * a - b - c, squared."""
    far_off = less(less(doubled(roots, a), b), c)
    return product_of(roots, far_off, far_off)


def corner_part(roots, a, b, c, others):
    p = dot(roots, b, a, b, c)
    squared = product_of(roots, product_of(roots, p, p), others)
    return product_of(roots, whole(roots, sign_of(roots, p)), squared)


def number_by_hand(drawing, text):
    """The number of a claim as [28] tells it, reckoned in the second way."""
    roots, words = drawing.roots(), text.split(" ")
    places = [drawing.place(name) for name in words[1:]]
    given = [place[1:] for place in places]
    if words[0] == "on":
        if places[1][0] == "line":
            return left_of_line(roots, given[1], given[0])
        return less(far_by_hand(roots, given[0], given[1]), given[1][2])
    if words[0] == "same":
        return far_by_hand(roots, given[0], given[1])
    if words[0] in ("even", "longer"):
        return less(far_by_hand(roots, given[0], given[1]), far_by_hand(roots, given[2], given[3]))
    if words[0] == "square":
        return dot(roots, *given)
    if words[0] == "middle":
        return sum_of(*[off_middle(roots, given[0][at], given[1][at], given[2][at]) for at in (0, 1)])
    if words[0] in ("left", "row"):
        return turn(roots, *given)
    a, b, c, d, e, f = given
    m = product_of(roots, far_by_hand(roots, a, b), far_by_hand(roots, c, b))
    n = product_of(roots, far_by_hand(roots, d, e), far_by_hand(roots, f, e))
    return less(corner_part(roots, a, b, c, n), corner_part(roots, d, e, f, m))


class Claims(Looks, unittest.TestCase):
    def assert_claim(self, drawing, text):
        """The number, its sign and the truth of a claim; tells the truth."""
        roots, claim = drawing.roots(), claim_of(text)
        number = claim.measured(drawing)
        self.assert_number(roots, number)
        self.assertEqual(number, number_by_hand(drawing, text), text)
        told = claim.asked(drawing)
        self.assertIs(type(told), tuple)
        sign = sign_of(roots, number)
        true = sign > 0 if text.split(" ")[0] in ("longer", "left") else sign == 0
        self.assertEqual(told, (true, sign, number), text)
        self.assertIs(type(told[0]), bool)
        self.assertIs(type(told[1]), int)
        return true

    def assert_truths(self, rows, true, false):
        drawing = drawn(rows)
        for text in true:
            self.assertTrue(self.assert_claim(drawing, text), text)
        for text in false:
            self.assertFalse(self.assert_claim(drawing, text), text)


class Texts(Claims):
    def test_each_claim_is_told_as_it_was_handed_in(self):
        for word, many in NAMES.items():
            for names in [["a", "b", "c", "d", "e", "f"], ["abcdef"] * 6, [word[:6]] * 6, ["on", "left", "row"] * 2]:
                text = " ".join([word] + names[:many])
                claim = claim_of(text)
                self.assertIsInstance(claim, Claim)
                self.assertIsNot(type(claim), Claim)
                self.assertEqual(claim.text(), text)

    def test_texts_that_are_no_claims(self):
        for word, many in NAMES.items():
            names = list("abcdef")
            good = " ".join([word] + names[:many])
            wrong = [word, word + " ", " " + good, good + " ", good.replace(" ", "  ", 1), good + "\n", good + " g",
                     " ".join([word] + names[:many - 1]), " ".join([word.upper()] + names[:many]), good.upper(),
                     " ".join([word + "s"] + names[:many]), " ".join(names[:many]), "\n" + good, "not " + good,
                     good.replace(" ", ""), good.replace(" ", "\t"), " ".join([word[:-1]] + names[:many])]
            for text in wrong:
                with self.subTest(text=text):
                    self.assert_refused(NoClaim, claim_of, text)

    def test_names_that_are_none(self):
        for wrong in ["", "abcdefg", "A", "a1", "1", "-", "a_b", "\u00e4", "\u0430", "a\n", "1/2", "abcdef" * 40]:
            for word, many in NAMES.items():
                for at in range(many):
                    names = ["a"] * many
                    names[at] = wrong
                    self.assert_refused(NoClaim, claim_of, " ".join([word] + names))

    def test_other_words(self):
        for text in ["", " ", "a", "claim same a b", "equal a b", "point a 1 2", "line l a b", "right a b c",
                     "under a b", "sames a b", "On a b", "same", "true", "none", "undo", "corner a b c d e f",
                     "same  b", "\n"]:
            self.assert_refused(NoClaim, claim_of, text)

    def test_the_number_of_names(self):
        for word, many in NAMES.items():
            for names in range(10):
                text = " ".join([word] + ["a"] * names)
                if names == many:
                    self.assertEqual(claim_of(text).text(), text)
                else:
                    self.assert_refused(NoClaim, claim_of, text)

    def test_things_that_are_no_texts(self):
        for thing in NO_TEXTS + [["same a b"], ("same", "a", "b"), ["same", "a", "b"], b"same a b", GREAT, Thorn(),
                                 claim_of("same a b"), {"same a b": 1}]:
            self.assert_refused(NoClaim, claim_of, thing)


class Numbers(Claims):
    def test_claims_of_points_over_none_to_three_roots(self):
        for seed, rows in enumerate(DRAWINGS):
            drawing, wheel, counts = drawn(rows), Wheel(seed), {}
            points = names_in(drawing, "point")
            for word in OF_POINTS:
                for _ in range(40):
                    names = [wheel.chosen(points) for _ in range(NAMES[word])]
                    true = self.assert_claim(drawing, " ".join([word] + names))
                    counts[(word, true)] = counts.get((word, true), 0) + 1
            # By chance a point is hardly ever the middle of two.
            counts[("middle", True)] = self.assert_claim(drawing, f"middle {points[0]} {points[0]} {points[0]}")
            self.assertEqual(len(counts), 2 * len(OF_POINTS), counts)

    def test_on_for_all_points_lines_and_rings(self):
        for rows in DRAWINGS:
            drawing, counts = drawn(rows), {}
            for name in names_in(drawing, "point"):
                for kind in ("line", "ring"):
                    for thing in names_in(drawing, kind):
                        true = self.assert_claim(drawing, f"on {name} {thing}")
                        counts[(kind, true)] = counts.get((kind, true), 0) + 1
            self.assertEqual(len(counts), 4, rows)

    def test_what_each_row_says_is_claimed_truly(self):
        for rows in DRAWINGS:
            drawing = drawn(rows)
            for words in [row.split(" ") for row in rows]:
                if words[0] == "line":
                    self.assertTrue(self.assert_claim(drawing, f"on {words[2]} {words[1]}"))
                    self.assertTrue(self.assert_claim(drawing, f"on {words[3]} {words[1]}"))
                elif words[0] == "ring" and len(words) == 4:
                    self.assertTrue(self.assert_claim(drawing, f"on {words[3]} {words[1]}"))
                elif words[0] == "meet":
                    self.assertTrue(self.assert_claim(drawing, f"on {words[1]} {words[2]}"))
                    self.assertTrue(self.assert_claim(drawing, f"on {words[1]} {words[3]}"))

    def test_signs_of_each_claim(self):
        """Below nought, nought and above nought, for each claim that can have all three."""
        rows = ["point a 0 0", "point b 2 0", "point c 0 3", "point d 2 3", "point e 1 0", "point f 1 1", "line l a b",
                "ring r a b"]
        drawing = drawn(rows)
        told = {
            "same a a": 0, "same a b": 1, "on c l": 1, "on e l": 0, "on c r": 1, "on b r": 0, "on e r": -1,
            "even a b c d": 0, "even a b a c": -1, "even a c a b": 1, "longer a b c d": 0, "longer a b a c": -1,
            "longer a c a b": 1, "square a b a c": 0, "square a b a d": 1, "square a b d a": -1, "middle e a b": 0,
            "middle a e b": 1, "left a b c": 1, "left b a c": -1, "left a b e": 0, "row a b c": 1, "row b a c": -1,
            "row a e b": 0, "corners b a c a b d": 0, "corners b a d b a c": 1, "corners b a c b a d": -1,
        }
        for text, sign in told.items():
            self.assert_claim(drawing, text)
            self.assertEqual(claim_of(text).asked(drawing)[1], sign, text)

    def test_numbers_told_by_hand(self):
        drawing = drawn(["point a 0 0", "point b 3 0", "point c 0 4", "point d 1/2 1", "line l c b", "ring r a c"])
        for text, number in [("same b c", 25), ("same a a", 0), ("even a b a c", -7), ("longer a c a b", 7),
                             ("square a b a c", 0), ("square a b c b", 9), ("middle a b c", 25), ("left a b c", 12),
                             ("left b a c", -12), ("row a c b", -12), ("on a r", -16), ("on b r", -7), ("on c r", 0),
                             ("corners b a c a b c", 0 - 81 * 9 * 16), ("corners a b c b a c", 81 * 9 * 16)]:
            self.assertEqual(claim_of(text).measured(drawing), ((number,), 1), text)
        self.assertEqual(claim_of("same a d").measured(drawing), ((5,), 4))
        self.assertEqual(claim_of("on d l").measured(drawing), ((-7,), 4))
        self.assertEqual(claim_of("middle d a b").measured(drawing), ((8,), 1))

    def test_the_number_is_over_the_scaffold_as_it_is_now(self):
        drawing = drawn(HALVED[:5])
        claim = claim_of("even o a o c")
        self.assertEqual(claim.measured(drawing), ((-1,), 1))
        for row in HALVED[5:]:
            drawing.add(row)
            self.assertEqual(claim.measured(drawing), whole(drawing.roots(), -1))
            self.assertEqual(claim.asked(drawing), (False, -1, whole(drawing.roots(), -1)))

    def test_asked_of_several_drawings(self):
        claim = claim_of("same a b")
        self.assertEqual(claim.asked(drawn(PLAIN)), (False, 1, ((36,), 1)))
        self.assertEqual(claim.asked(drawn(SIXTH)), (False, 1, ((1, 0), 1)))
        self.assertEqual(claim.asked(drawn(["point a 1 1", "point b 2/2 1"])), (True, 0, ((0,), 1)))

    def test_the_drawing_stays(self):
        for rows in DRAWINGS:
            drawing = drawn(rows)
            names = names_in(drawing)
            before = (drawing.rows(), drawing.roots(), [drawing.place(name) for name in names])
            for text in ["same a c", "even a c a c", "on a r"]:
                claim_of(text).asked(drawing)
                claim_of(text).measured(drawing)
            self.assertEqual((drawing.rows(), drawing.roots(), [drawing.place(name) for name in names]), before)


class Truths(Claims):
    def test_the_sixth_of_a_round(self):
        self.assert_truths(SIXTH, [
            "even a b b c", "even a c b c", "middle e a b", "middle e c d", "square a b c d", "left a b c",
            "left b a d", "row a e b", "row c e d", "corners a b c b c a", "corners c a b d a b", "longer c d a b",
            "same f b", "on c r", "on c s", "on c cd", "corners a c b d b a", "square a e e c",
        ], [
            "even a b c d", "middle e a c", "square a b b c", "left a b d", "left a b e", "row a b c",
            "corners c a d a b c", "longer a b c d", "longer a b b c", "same a b", "on a r", "on c ab",
        ])

    def test_the_fifth_of_a_round(self):
        self.assert_truths(FIFTH, [
            "even t a t b", "even t a a c", "even t a c d", "even t a d b", "square t o c d", "square a b o t",
            "corners a t b t a c", "corners t a c a c d", "corners t b a t a b", "longer a b t a", "left b a t",
            "left d c o", "corners a c b a d b",
        ], ["even t a a b", "corners a t b t a b", "left c d o", "longer t a a b", "row t a c", "middle o a b"])

    def test_halved_and_halved_again(self):
        self.assert_truths(HALVED, [
            "corners a o h h o d", "same e o", "on j r", "middle o g h", "even a h h d", "row o f h", "row o i j",
            "square a g a h",
        ], ["corners a o h a o d", "same e f", "even a h a d", "longer a h a d", "row o i d", "square a g o h"])

    def test_mixed_roots(self):
        self.assert_truths(MIXED, ["on e t", "on f u", "on h ad", "even a b a d", "row c e k", "row b f k"],
                           ["on e u", "even a b a e", "row c e f", "same e f", "middle c e k"])

    def test_square_with_a_side_of_no_length(self):
        self.assert_truths(SIXTH, ["square a a b c", "square b c d d", "square b f a c", "square a a a a"], [])

    def test_middle_of_one_point(self):
        self.assert_truths(PLAIN, ["middle a a a", "middle g i i"], ["middle a a b", "middle a b a", "middle b a a"])

    def test_row_with_points_that_are_one(self):
        self.assert_truths(PLAIN, ["row a a b", "row a b a", "row b a a", "row a a a", "row g i d"], ["left a a b"])

    def test_longer_is_not_even(self):
        self.assert_truths(PLAIN, ["longer a b a c", "even a c c a"],
                           ["longer a c a b", "longer a c c a", "longer a a a a", "longer a a a b", "even a b a c"])

    def test_same_points_from_different_rows(self):
        self.assert_truths(PLAIN, ["same g i", "same h f"], ["same g h", "same i j"])


CORNERS = ["point o 0 0", "point a 1 0", "point b 1 1", "point c 0 1", "point d -1 1", "point e -1 0"]


class Corners(Claims):
    def test_alike_and_unlike(self):
        self.assert_truths(CORNERS, [
            "corners a o b b o c", "corners a o b c o d", "corners b o a a o b", "corners a o c c o e",
            "corners a o d b o e", "corners a o e e o a", "corners b o b a o a", "corners a b o b o a",
        ], [
            "corners a o b a o c", "corners a o c a o d", "corners a o d a o e", "corners a o b a o a",
            "corners a o e a o a", "corners c o a d o a",
        ])

    def test_sharp_and_blunt_ones_that_have_one_square(self):
        # a o b and a o d are an eighth of a round and three of them: their p have one size and unlike signs.
        drawing = drawn(CORNERS)
        for text, sign in [("corners a o b a o d", 1), ("corners a o d a o b", -1), ("corners a o e a o a", -1),
                           ("corners a o a a o e", 1), ("corners a o d b o e", 0), ("corners a o d b o c", -1)]:
            self.assert_claim(drawing, text)
            self.assertEqual(claim_of(text).asked(drawing)[1], sign, text)

    def test_blunt_ones_that_are_unlike(self):
        drawing = drawn(["point o 0 0", "point a 1 0", "point b -1 1", "point c -2 1", "point d -1 2"])
        self.assertFalse(self.assert_claim(drawing, "corners a o b a o c"))
        self.assertFalse(self.assert_claim(drawing, "corners a o c a o d"))
        self.assertTrue(self.assert_claim(drawing, "corners a o c c o a"))
        self.assertEqual(claim_of("corners a o b a o c").asked(drawing)[1], 1)

    def test_sides_of_no_length(self):
        self.assert_truths(CORNERS, [
            "corners o o b a o c", "corners a o o a o c", "corners a o b o o c", "corners a o b a o o",
            "corners o o o a o b", "corners a a a b b b", "corners a o b c c c",
        ], [])

    def test_the_length_of_the_sides_counts_for_nothing(self):
        rows = ["point o 0 0", "point a 1 0", "point b 7 0", "point c 1 1", "point d 2/3 2/3", "point e 3 -3"]
        self.assert_truths(rows, ["corners a o c b o d", "corners b o c a o d", "corners a o c e o b"],
                           ["corners a o c a o b", "corners c o e a o c"])

    def test_over_roots(self):
        self.assert_truths(SIXTH, ["corners a b c c a b"], ["corners a b c c d a"])
        self.assert_truths(FIFTH, ["corners a c b a d b"], ["corners a t b a o b"])
        self.assert_truths(HALVED, ["corners a o h h o d"], ["corners a o g h o a", "corners a o h a o g"])
        self.assert_truths(MIXED, ["corners a b d b d a"], ["corners a b d b d c"])


class Refused(Claims):
    def assert_named(self, kind, name, drawing, text):
        claim = claim_of(text)
        self.assertEqual(self.assert_refused(kind, claim.measured, drawing).name, name)
        self.assertEqual(self.assert_refused(kind, claim.asked, drawing).name, name)

    def test_of_a_drawing_without_rows(self):
        for word, many in NAMES.items():
            names = list("uvwxyz")[:many]
            self.assert_named(NoName, "u", Drawing(), " ".join([word] + names))

    def test_a_name_that_is_not_there_at_each_place(self):
        for rows in DRAWINGS:
            drawing = drawn(rows)
            for word in OF_POINTS:
                for at in range(NAMES[word]):
                    names = ["a"] * NAMES[word]
                    names[at] = "nn"
                    self.assert_named(NoName, "nn", drawing, " ".join([word] + names))
                    if at + 1 < NAMES[word]:
                        names[at + 1] = "mm"
                        self.assert_named(NoName, "nn", drawing, " ".join([word] + names))

    def test_a_name_of_another_kind_at_each_place(self):
        drawing = drawn(PLAIN)
        for word in OF_POINTS:
            for at in range(NAMES[word]):
                for thing in ["ab", "r"]:
                    names = ["a"] * NAMES[word]
                    names[at] = thing
                    self.assert_named(NoKind, thing, drawing, " ".join([word] + names))

    def test_names_from_the_left(self):
        drawing = drawn(PLAIN)
        for word in OF_POINTS:
            for at in range(NAMES[word] - 1):
                for behind in range(at + 1, NAMES[word]):
                    names = ["a"] * NAMES[word]
                    names[at], names[behind] = "r", "nn"
                    self.assert_named(NoKind, "r", drawing, " ".join([word] + names))
                    names[at], names[behind] = "nn", "r"
                    self.assert_named(NoName, "nn", drawing, " ".join([word] + names))
                    names[at], names[behind] = "cd", "r"
                    self.assert_named(NoKind, "cd", drawing, " ".join([word] + names))

    def test_on(self):
        drawing = drawn(PLAIN)
        for text, kind, name in [("on a b", NoKind, "b"), ("on a a", NoKind, "a"), ("on ab a", NoKind, "ab"),
                                 ("on r r", NoKind, "r"), ("on ab ab", NoKind, "ab"), ("on nn b", NoName, "nn"),
                                 ("on a nn", NoName, "nn"), ("on ab nn", NoKind, "ab"), ("on nn mm", NoName, "nn"),
                                 ("on r ab", NoKind, "r"), ("on a e", NoKind, "e")]:
            self.assert_named(kind, name, drawing, text)

    def test_once_the_name_is_there_it_is_told(self):
        drawing, claim = drawn(["point a 0 0"]), claim_of("same a b")
        self.assert_refused(NoName, claim.asked, drawing)
        drawing.add("point b 0 0")
        self.assertEqual(claim.asked(drawing), (True, 0, ((0,), 1)))


if __name__ == "__main__":
    unittest.main()
