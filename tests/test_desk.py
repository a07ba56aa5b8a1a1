"""[34], [35]: the desk, its lines and its answers."""

import decimal
import unittest

from compasshall.claims import claim_of
from compasshall.desk import Desk
from compasshall.drawings import drawn
from compasshall.equations import equation
from compasshall.errors import (NoAsk, NoClaim, NoKind, NoLine, NoMeet, NoName, NoRing, NoRoom, NoRow, TooGreat,
                                TooMany, Twice)
from handy import (DRAWINGS, FIFTH, FIGURES, HALVED, MIXED, NO_TEXTS, PLAIN, SIXTH, Looks, Thorn, names_in, value)


def desk_of(rows):
    desk = Desk()
    for row in rows:
        desk.told("draw " + row)
    return desk


def seen(desk):
    """What a desk answers about all that it keeps."""
    rows = desk.told("rows")
    told = [rows, desk.told("roots")]
    for row in [] if rows == "none" else rows.split("; "):
        words = row.split(" ")
        if words[0] in ("point", "meet"):
            told.extend([desk.told(f"where {words[1]} 20"), desk.told(f"degree {words[1]}")])
        else:
            told.append(desk.told(f"sign on {words[2]} {words[1]}") if words[0] == "line" else row)
    return told


def floor_by_hand(roots, x, places):
    """The floor of a number with so many places, from its fraction or its first figures."""
    scale = 10 ** places
    if not any(x[0][1:]):
        return x[0][0] * scale // x[1]
    with decimal.localcontext() as context:
        context.prec = FIGURES
        return int((value(roots, x) * scale).to_integral_value(rounding=decimal.ROUND_FLOOR))


class Lines(Looks, unittest.TestCase):
    def answers(self, desk, pairs):
        for line, answer in pairs:
            told = desk.told(line)
            self.assertIs(type(told), str)
            self.assertEqual(told, answer, line)

    def test_a_desk_from_beginning_to_end(self):
        self.answers(Desk(), [
            ("rows", "none"), ("roots", "0"), ("draw point a 0 0", "1"), ("draw point b 2/2 -0", "2"),
            ("rows", "point a 0 0; point b 1 0"), ("draw ring r a b", "3"), ("draw ring s b a", "4"), ("roots", "0"),
            ("draw meet c r s first", "5"), ("roots", "1"), ("claim even a b b c", "true"),
            ("claim left a b c", "true"), ("claim left b a c", "false"), ("sign left b a c", "-1"),
            ("sign left a b c", "1"), ("sign even a b b c", "0"), ("where a 0", "0 0"), ("where c 0", "0 0"),
            ("where c 3", "500 866"), ("degree c", "1 2"), ("degree a", "1 1"), ("undo", "4"),
            ("roots", "0"), ("rows", "point a 0 0; point b 1 0; ring r a b; ring s b a"),
            ("draw meet c r s second", "5"), ("where c 3", "500 -867"), ("roots", "1"), ("undo", "4"), ("undo", "3"),
            ("undo", "2"), ("undo", "1"), ("rows", "point a 0 0"), ("undo", "0"), ("rows", "none"), ("roots", "0"),
        ])

    def test_rows_and_roots_of_drawings(self):
        for rows in DRAWINGS:
            desk = Desk()
            for at, row in enumerate(rows):
                self.answers(desk, [("draw " + row, str(at + 1)), ("rows", "; ".join(rows[:at + 1])),
                                    ("roots", str(len(drawn(rows[:at + 1]).roots())))])

    def test_rows_as_they_are_written(self):
        desk = desk_of(["point a 4/6 -0", "point b -6/4 10/5", "ring r a by 9/6"])
        self.assertEqual(desk.told("rows"), "point a 2/3 0; point b -3/2 2; ring r a by 3/2")

    def test_claims_and_signs(self):
        for rows in DRAWINGS:
            desk, drawing = desk_of(rows), drawn(rows)
            points = names_in(drawing, "point")
            texts = [f"on {name} r" for name in points]
            for one, other, third in zip(points, points[1:], points[2:]):
                texts.extend([f"same {one} {other}", f"same {one} {one}", f"left {one} {other} {third}",
                              f"row {one} {other} {third}", f"longer {one} {third} {one} {other}",
                              f"even {one} {third} {one} {other}", f"square {one} {other} {other} {third}",
                              f"middle {one} {other} {third}", f"corners {one} {other} {third} {other} {third} {one}"])
            for text in texts:
                true, sign, _ = claim_of(text).asked(drawing)
                self.answers(desk, [("claim " + text, "true" if true else "false"), ("sign " + text, str(sign))])

    def test_names_that_are_words_of_the_desk(self):
        desk = desk_of(["point draw 1 2", "point rows 3 4", "point where 5 6", "point undo 0 0",
                        "line claim draw rows"])
        self.answers(desk, [("where where 1", "50 60"), ("degree rows", "1 1"), ("claim on where claim", "true"),
                            ("sign same undo undo", "0"), ("where undo 60", "0 0"), ("where draw 0", "1 2")])


class Where(Looks, unittest.TestCase):
    def test_against_the_figures_of_the_numbers(self):
        for rows in DRAWINGS:
            desk, drawing = desk_of(rows), drawn(rows)
            for name in names_in(drawing, "point"):
                for places in (0, 1, 9, 10, 59, 60):
                    wanted = [floor_by_hand(drawing.roots(), x, places) for x in drawing.place(name)[1:]]
                    self.assertEqual(desk.told(f"where {name} {places}"), f"{wanted[0]} {wanted[1]}")

    def test_below_nought(self):
        desk = desk_of(["point a -1/2 -3", "point b -1/3 1/3", "point c -7 0", "ring r c by 2", "line l b c"])
        self.assertEqual(desk.told("where a 0"), "-1 -3")
        self.assertEqual(desk.told("where a 1"), "-5 -30")
        self.assertEqual(desk.told("where b 0"), "-1 0")
        self.assertEqual(desk.told("where b 2"), "-34 33")
        self.assertEqual(desk.told("where b 60"), f"-{'3' * 59}4 {'3' * 60}")
        self.assertEqual(desk.told("where c 0"), "-7 0")

    def test_all_numbers_of_places(self):
        desk = desk_of(["point a 1/7 -1/7"])
        for places in range(61):
            high = 10 ** places // 7
            self.assertEqual(desk.told(f"where a {places}"), f"{high} {-high - 1}")

    def test_refused(self):
        desk = desk_of(PLAIN)
        for line in ["where nn 3", "where nn 0", "where zzzzzz 60", "degree nn"]:
            refusal = self.assert_refused(NoName, desk.told, line)
            self.assertEqual(refusal.name, line.split(" ")[1])
        for line in ["where ab 3", "where r 0", "degree ab", "degree s"]:
            refusal = self.assert_refused(NoKind, desk.told, line)
            self.assertEqual(refusal.name, line.split(" ")[1])
        self.assert_refused(NoName, Desk().told, "where a 0")
        self.assert_refused(NoName, Desk().told, "degree a")

    def test_degrees(self):
        degrees = {}
        for rows in DRAWINGS:
            desk, drawing = desk_of(rows), drawn(rows)
            for name in names_in(drawing, "point"):
                told = [len(equation(drawing.roots(), x)) - 1 for x in drawing.place(name)[1:]]
                self.assertEqual(desk.told(f"degree {name}"), f"{told[0]} {told[1]}")
                degrees.update({told[0]: True, told[1]: True})
        self.assertEqual(sorted(degrees), [1, 2, 4, 8])
        self.assertEqual(desk_of(FIFTH).told("degree a"), "4 2")
        self.assertEqual(desk_of(HALVED).told("degree j"), "8 8")


class Undo(Looks, unittest.TestCase):
    def test_of_each_row(self):
        for rows in DRAWINGS:
            desk = desk_of(rows)
            for many in range(len(rows) - 1, -1, -1):
                self.assertEqual(desk.told("undo"), str(many))
                self.assertEqual(seen(desk), seen(desk_of(rows[:many])))
            self.assert_refused(NoAsk, desk.told, "undo")
            self.assertEqual(seen(desk), ["none", "0"])

    def test_of_the_row_that_put_a_root_in(self):
        desk = desk_of(SIXTH[:5])
        self.assertEqual(desk.told("roots"), "1")
        desk.told("undo")
        self.assertEqual(desk.told("roots"), "0")
        for line in ["draw point p 0 1", "draw line k a p", "draw ring t b by 3", "draw meet z k t first", "roots"]:
            told = desk.told(line)
        self.assertEqual((told, desk.told("where z 5")), ("1", "0 -141422"))
        for many in (7, 6, 5, 4):
            self.assertEqual(desk.told("undo"), str(many))
        self.assertEqual((desk.told("roots"), desk.told("rows")), ("0", "; ".join(SIXTH[:4])))

    def test_a_name_taken_away_is_free_again(self):
        desk = desk_of(["point a 0 0", "point b 1 1"])
        desk.told("undo")
        self.assert_refused(NoName, desk.told, "where b 0")
        self.assertEqual(desk.told("draw point b 5 6"), "2")
        self.assertEqual(desk.told("where b 0"), "5 6")

    def test_there_is_room_again(self):
        desk = desk_of([f"point {name} {at} 0" for at, name in enumerate("abcdef")])
        self.assert_refused(TooMany, desk.told, "draw point g 9 9")
        self.assertEqual(desk.told("undo"), "5")
        self.assertEqual(desk.told("draw point g 9 9"), "6")
        desk = desk_of(HALVED + ["ring w a by 7"])
        self.assert_refused(NoRoom, desk.told, "draw meet z oc w first")
        self.assertEqual([desk.told("undo"), desk.told("undo")], ["17", "16"])
        self.assertEqual([desk.told("draw ring w a by 7"), desk.told("draw meet z oc w first")], ["17", "18"])
        self.assertEqual(desk.told("roots"), "3")

    def test_without_rows(self):
        desk = Desk()
        for _ in range(3):
            self.assert_refused(NoAsk, desk.told, "undo")
            self.assertEqual(desk.told("rows"), "none")


NO_LINES = """
draw
claim
sign
undo 1
undo a
undos
Undo
UNDO
rows all
rows 1
row
roots 1
root
none
where
where a
where 3
where a b
where a 3 4
where a 3 a
where a -1
where a -0
where a +1
where a 00
where a 01
where a 07
where a 61
where a 99
where a 100
where a 060
where a 6.0
where a 1e1
where a 1/1
where A 3
where aB 3
where a1 3
where abcdefg 3
where 1 3
where a a 3
degree
degree a 3
degree a b
degree A
degree 1
degree a1
degree abcdefg
degrees a
degree a a
point z 1 2
line z a b
same a b
drawpoint z 1 2
drawing point z 1 2
Draw point z 1 2
claims same a b
signs same a b
clain same a b
quit
help
""".split("\n")


class Refused(Looks, unittest.TestCase):
    def assert_stays(self, kind, desk, line):
        before = seen(desk)
        refusal = self.assert_refused(kind, desk.told, line)
        self.assertEqual(seen(desk), before)
        return refusal

    def test_lines_that_are_none(self):
        for rows in [[], SIXTH]:
            desk = desk_of(rows)
            for line in NO_LINES:
                with self.subTest(line=line):
                    self.assert_stays(NoAsk, desk, line)

    def test_blanks_more_or_less(self):
        desk = desk_of(SIXTH)
        for line in ["undo", "rows", "roots", "where a 3", "degree a"]:
            words = line.split(" ")
            wrong = [" " + line, line + " ", line + "\n", "\n" + line, line + "\t", line + ";", "  ".join(words) + " "]
            for at in range(1, len(words)):
                wrong.append(" ".join(words[:at]) + "  " + " ".join(words[at:]))
                wrong.append(" ".join(words[:at]) + "\t" + " ".join(words[at:]))
                wrong.append("".join(words[:at]) + "".join(words[at:]))
            for text in wrong:
                with self.subTest(text=text):
                    self.assert_stays(NoAsk, desk, text)
        for text in [" draw point z 1 2", " claim same a b", "  sign same a b", "draw\tpoint z 1 2", "claim\nsame a b",
                     "", " ", "  ", "\n", "draw\n", "sign\t", "drawpoint z 1 2", "\ndraw point z 1 2"]:
            self.assert_stays(NoAsk, desk, text)

    def test_figures_of_other_scripts(self):
        desk = desk_of(SIXTH)
        for places in ["\u0663", "\u00b2", "1\u0660", "\uff13", "", "3\n", " 3", "1" * 70]:
            self.assert_stays(NoAsk, desk, f"where a {places}")
        for name in ["\u0430", "\u00e4", "", "a\n"]:
            self.assert_stays(NoAsk, desk, f"where {name} 3")
            self.assert_stays(NoAsk, desk, f"degree {name}")

    def test_things_that_are_no_texts(self):
        desk = desk_of(SIXTH)
        for thing in NO_TEXTS + [["rows"], ("rows",), b"rows", {"rows": 1}, Thorn(), Desk(), ["draw", "point z 1 2"]]:
            self.assert_stays(NoAsk, desk, thing)

    def test_a_line_that_is_none_ahead_of_its_names(self):
        desk = desk_of(SIXTH)
        for line in ["where nn 61", "where r 07", "where nn", "degree nn 1", "where NN 3"]:
            self.assert_stays(NoAsk, desk, line)

    def test_draw_with_whatever_is_behind_it(self):
        desk = desk_of(SIXTH)
        for behind in ["", " ", "x", " point z 1 2", "point z 1 2 ", "point z 1", "point  z 1 2", "\n",
                       "draw point z 1 2", "rows", "undo", "line z", "ring z a by x", "meet z r s third",
                       "point Z 1 2"]:
            self.assert_stays(NoRow, desk, "draw " + behind)

    def test_claim_and_sign_with_whatever_is_behind_it(self):
        desk = desk_of(SIXTH)
        for behind in ["", " ", "x", " same a b", "same a b ", "same a", "same  a b", "\n", "claim same a b",
                       "sign same a b", "rows", "same A b", "same a b c", "on a", "equal a b"]:
            self.assert_stays(NoClaim, desk, "claim " + behind)
            self.assert_stays(NoClaim, desk, "sign " + behind)

    def test_the_refusals_of_rows(self):
        desk = desk_of(PLAIN)
        for row, kind, name in [("point a 1 1", Twice, "a"), ("line z a nn", NoName, "nn"),
                                ("line z ab nn", NoKind, "ab"), ("meet z ab cd first", NoKind, "cd"),
                                ("line a nn nn", Twice, "a")]:
            self.assertEqual(self.assert_stays(kind, desk, "draw " + row).name, name)
        for row, kind in [("line z a a", NoLine), ("ring z a a", NoRing), ("ring z a by 0", NoRing),
                          ("ring z a by -1", NoRing), ("meet z ab ab", NoMeet), ("meet z r r first", NoMeet)]:
            self.assert_stays(kind, desk, "draw " + row)
        self.assertEqual(self.assert_stays(NoMeet, desk, "draw meet z r r first").number, ((0,), 1))

    def test_too_many_no_room_and_too_great(self):
        desk = desk_of([f"point {name} {at} 0" for at, name in enumerate("abcdef")])
        self.assert_stays(TooMany, desk, "draw point g 9 9")
        self.assert_stays(TooMany, desk, "draw point a 9 9")
        desk = desk_of(HALVED + ["ring w a by 7/11", "point p 1 1/5", "line ap a p"])
        self.assert_stays(NoRoom, desk, "draw meet z ap w first")
        desk = desk_of(["point o 0 0", f"point a 1/{10 ** 59} {10 ** 59}", f"point b {10 ** 32} 0",
                        f"point c {10 ** 32} 1", "line l o a", "line m b c", "meet p l m"])
        self.assert_stays(TooGreat, desk, "draw ring r o p")
        self.assertEqual(desk.told("where p 60"), f"{10 ** 92} {10 ** 210}")
        self.assertEqual(desk.told("draw ring r o b"), "8")

    def test_the_refusals_of_claims(self):
        desk = desk_of(PLAIN)
        for text, kind, name in [("same a nn", NoName, "nn"), ("same nn r", NoName, "nn"), ("same r nn", NoKind, "r"),
                                 ("on a b", NoKind, "b"), ("on ab r", NoKind, "ab"), ("left a b ab", NoKind, "ab"),
                                 ("corners a b c d e nn", NoName, "nn")]:
            for word in ("claim", "sign"):
                self.assertEqual(self.assert_stays(kind, desk, f"{word} {text}").name, name)

    def test_behind_refusals_a_row_more_is_done(self):
        desk = Desk()
        for at, row in enumerate(MIXED):
            for wrong in ["draw point", "claim same a", "undo all", None, "where a 61", "draw line z nn nn",
                          "sign on nn nn"]:
                with self.assertRaises(ValueError):
                    desk.told(wrong)
            self.assertEqual(desk.told("draw " + row), str(at + 1))
        self.assertEqual(seen(desk), seen(desk_of(MIXED)))


class SideBySide(Looks, unittest.TestCase):
    def test_two_desks(self):
        one, other = Desk(), Desk()
        self.assertEqual(one.told("draw point a 1 2"), "1")
        self.assertEqual((other.told("rows"), other.told("roots")), ("none", "0"))
        for at, row in enumerate(SIXTH):
            self.assertEqual(other.told("draw " + row), str(at + 1))
        self.assertEqual((one.told("rows"), one.told("roots")), ("point a 1 2", "0"))
        self.assertEqual((one.told("where a 0"), other.told("where a 0")), ("1 2", "0 0"))
        self.assertEqual(one.told("undo"), "0")
        self.assert_refused(NoAsk, one.told, "undo")
        self.assertEqual(other.told("rows"), "; ".join(SIXTH))
        self.assertEqual(other.told("roots"), "1")

    def test_asking_changes_nothing(self):
        for rows in DRAWINGS:
            desk = desk_of(rows)
            before = seen(desk)
            for _ in range(2):
                self.assertEqual(seen(desk), before)


if __name__ == "__main__":
    unittest.main()
