"""Point [13] and the interface of cartelship/errors.py."""

import unittest

from cartelship import errors

WITH_TEXT = (
    "BadName", "Taken", "Full", "NoSide", "NoMan", "BadRank", "Own", "BadTariff", "BadLimit", "BadDay",
    "NoCartel", "NoMen", "Twice", "Gone", "Held", "NotHeld", "OffRoll", "Uneven", "NoPart", "NoDeed", "NoStep",
)
WITH_NUMBER = (("Breaks", "number"), ("BadRow", "at"))
ALL = WITH_TEXT + ("Breaks", "BadRow")
NUMBERS = (0, 1, -1, 7, 120, -120, 10 ** 6, 2 ** 63, -2 ** 64, 10 ** 5000, -10 ** 5000)


def named(name):
    return getattr(errors, name)


def made(name):
    return named(name)("why" if name in WITH_TEXT else 3)


class Classes(unittest.TestCase):
    def test_the_root_stands_straight_under_value_error(self):
        self.assertEqual(errors.CartelError.__bases__, (ValueError,))

    def test_each_stands_straight_under_the_root(self):
        for name in ALL:
            with self.subTest(name):
                self.assertEqual(named(name).__bases__, (errors.CartelError,))
                self.assertEqual(named(name).__name__, name)

    def test_there_is_no_other_refusal(self):
        found = [name for name, value in vars(errors).items() if isinstance(value, type)]
        self.assertEqual(sorted(found), sorted(ALL + ("CartelError",)))

    def test_an_object_of_one_is_none_of_another(self):
        for name in ALL:
            for other in ALL:
                with self.subTest(name, other=other):
                    self.assertEqual(isinstance(made(name), named(other)), name == other)

    def test_the_root_is_none_of_them(self):
        for name in ALL:
            with self.subTest(name):
                self.assertNotIsInstance(errors.CartelError("why"), named(name))


class Making(unittest.TestCase):
    def test_made_with_one_text(self):
        for name in WITH_TEXT + ("CartelError",):
            for text in ("", "why", "two words"):
                with self.subTest(name, text=text):
                    self.assertIs(type(named(name)(text)), named(name))

    def test_the_field_is_the_number(self):
        for name, field in WITH_NUMBER:
            for place, number in enumerate(NUMBERS):
                with self.subTest(name, place=place):
                    self.assertEqual(getattr(named(name)(number), field), number)

    def test_two_objects_have_fields_of_their_own(self):
        one, other = errors.Breaks(4), errors.Breaks(9)
        self.assertEqual((one.number, other.number), (4, 9))
        one, other = errors.BadRow(4), errors.BadRow(9)
        self.assertEqual((one.at, other.at), (4, 9))

    def test_made_without_a_number_is_wrong(self):
        for name, field in WITH_NUMBER:
            with self.subTest(name), self.assertRaises(TypeError):
                named(name)()


class Spoken(unittest.TestCase):
    def test_by_the_name_of_its_class(self):
        for name in WITH_TEXT + ("CartelError",):
            self.assertEqual(named(name)("why").spoken(), name)
        self.assertEqual(errors.BadRow(4).spoken(), "BadRow")

    def test_breaks_with_its_number(self):
        for number in (1, 7, 120, 10 ** 10):
            self.assertEqual(errors.Breaks(number).spoken(), f"Breaks {number}")


class Raising(unittest.TestCase):
    def test_taken_by_its_own_name_by_the_root_and_by_value_error(self):
        for name in ALL:
            for taker in (named(name), errors.CartelError, ValueError):
                with self.subTest(name, taker=taker.__name__), self.assertRaises(taker):
                    raise made(name)

    def test_the_field_is_there_where_it_is_taken(self):
        for name, field in WITH_NUMBER:
            for place, number in enumerate(NUMBERS):
                with self.subTest(name, place=place):
                    with self.assertRaises(errors.CartelError) as taken:
                        raise named(name)(number)
                    self.assertEqual(getattr(taken.exception, field), number)


if __name__ == "__main__":
    unittest.main()
