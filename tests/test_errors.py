"""The classes of compasshall.errors, as the interface tells them."""

import unittest

from compasshall import errors

OF_ONE_TEXT = [
    "Below", "NoText", "NoOver", "NoRoom", "NoLine", "NoRing", "NoRow",
    "TooMany", "TooGreat", "NoClaim", "NoMove", "NoChange", "NoAsk",
]
OF_ONE_NAME = ["Twice", "NoName", "NoKind"]
ALL = OF_ONE_TEXT + OF_ONE_NAME + ["NoMeet", "NoCarry"]


class Standing(unittest.TestCase):
    def test_hall_error_stands_straight_under_value_error(self):
        self.assertEqual(errors.HallError.__bases__, (ValueError,))

    def test_each_class_stands_straight_under_hall_error(self):
        for name in ALL:
            with self.subTest(name):
                self.assertEqual(getattr(errors, name).__bases__, (errors.HallError,))

    def test_no_class_is_under_another(self):
        for name in ALL:
            for other in ALL:
                if name != other:
                    with self.subTest(name=name, other=other):
                        self.assertFalse(issubclass(getattr(errors, name), getattr(errors, other)))

    def test_each_class_has_its_own_name(self):
        for name in ALL + ["HallError"]:
            self.assertEqual(getattr(errors, name).__name__, name)


class Making(unittest.TestCase):
    def taken_three_ways(self, name, value):
        own = getattr(errors, name)
        for taker in (own, errors.HallError, ValueError):
            with self.assertRaises(taker):
                raise own(value)

    def test_those_made_of_one_text(self):
        for name in OF_ONE_TEXT:
            with self.subTest(name):
                self.assertEqual(str(getattr(errors, name)("some words")), "some words")
                self.taken_three_ways(name, "some words")

    def test_hall_error_is_made_of_one_text(self):
        self.assertEqual(str(errors.HallError("some words")), "some words")

    def test_those_with_the_field_name(self):
        for name in OF_ONE_NAME:
            for value in ("a", "point", "zzzzzz"):
                with self.subTest(name=name, value=value):
                    self.assertEqual(getattr(errors, name)(value).name, value)
            self.taken_three_ways(name, "a")

    def test_no_meet_has_the_field_number(self):
        for number in [((0,), 1), ((-3, 1), 2), ((0, 0, -1, 0), 7)]:
            self.assertEqual(errors.NoMeet(number).number, number)
        self.taken_three_ways("NoMeet", ((0,), 1))

    def test_no_meet_tells_its_words_for_a_number_of_any_size(self):
        number = ((-10 ** 6000,), 1)
        refusal = errors.NoMeet(number)
        self.assertEqual(refusal.number, number)
        self.assertIsInstance(str(refusal), str)

    def test_no_carry_has_the_field_at(self):
        for at in (0, 1, 2):
            self.assertEqual(errors.NoCarry(at).at, at)
        self.taken_three_ways("NoCarry", 0)

    def test_each_object_keeps_its_own_field(self):
        one = errors.NoName("one")
        other = errors.NoName("other")
        self.assertEqual((one.name, other.name), ("one", "other"))


if __name__ == "__main__":
    unittest.main()
