"""What points [6], [16], [17] and [18] say of names, numbers, days and words."""

import string
import unittest

from cartelship.words import cut_words, good_name, join_words, read_day, read_number

NO_FIGURES = (
    "", " ", "a", "-", "+1", " 1", "1 ", "1 2", "1_0", "0x1", "1.0", "1e3", "/",
    "\u0661", "\u00b2", "1\u0662", "1\n", "\t1",
)
NOUGHT_AHEAD = ("00", "01", "007", "0000000000", "0123456789")
TOO_LONG = ("12345678901", "10000000000", "00000000001", "9" * 11, "9" * 5000)


class Names(unittest.TestCase):
    def test_one_to_eight_small_letters(self):
        for many in range(12):
            self.assertIs(good_name("a" * many), 1 <= many <= 8)
            self.assertIs(good_name("z" * many), 1 <= many <= 8)

    def test_every_single_sign(self):
        for code in range(0x500):
            sign = chr(code)
            for text in (sign, "ab" + sign, sign + "ab", "ab" + sign + "ab"):
                with self.subTest(text=text):
                    self.assertIs(good_name(text), sign in string.ascii_lowercase)

    def test_wrong_names(self):
        for text in ("", " ", "A", "Ab", "a b", "a1", "1", "-", "/", "a-b", "ab\n", "\u00e4", "\u00df", "\u0430", "\uff41"):
            with self.subTest(text=text):
                self.assertIs(good_name(text), False)


class Numbers(unittest.TestCase):
    def test_written_and_read(self):
        for number in list(range(1200)) + [10 ** 6, 10 ** 9 - 1, 10 ** 9, 10 ** 10 - 1]:
            self.assertEqual(read_number(str(number)), number)
            self.assertIs(type(read_number(str(number))), int)

    def test_what_is_no_number(self):
        for word in NO_FIGURES + NOUGHT_AHEAD + TOO_LONG + ("-1", "-0", "--1"):
            with self.subTest(word=word[:20]):
                self.assertIsNone(read_number(word))

    def test_how_many_figures(self):
        for many in range(1, 15):
            read = read_number("7" * many)
            self.assertEqual(read, int("7" * many) if many <= 10 else None)


class Days(unittest.TestCase):
    def test_as_numbers_are(self):
        for word in ("0", "1", "10", "1000000", "9999999999"):
            self.assertEqual(read_day(word), int(word))

    def test_below_nought(self):
        for word in ("-1", "-9", "-10", "-1000000", "-9999999999"):
            self.assertEqual(read_day(word), int(word))

    def test_no_day(self):
        for word in ("-", "--1", "-0", "- 1", "-+1", "+1", "1-", "-1-"):
            with self.subTest(word=word):
                self.assertIsNone(read_day(word))
        for word in NO_FIGURES + NOUGHT_AHEAD + TOO_LONG:
            with self.subTest(word=word[:20]):
                self.assertIsNone(read_day(word))
                self.assertIsNone(read_day("-" + word))


class Words(unittest.TestCase):
    def test_cut_at_each_blank(self):
        self.assertEqual(cut_words("next 5"), ["next", "5"])
        self.assertEqual(cut_words("swap a b x / y"), ["swap", "a", "b", "x", "/", "y"])
        self.assertEqual(cut_words("undo"), ["undo"])

    def test_a_blank_too_many_leaves_an_empty_word(self):
        for row in ("", " ", " a", "a ", "a  b"):
            with self.subTest(row=row):
                self.assertIn("", cut_words(row))
        self.assertIs(good_name(""), False)
        self.assertIsNone(read_number(""))
        self.assertIsNone(read_day(""))

    def test_nothing_but_the_blank_cuts(self):
        self.assertEqual(cut_words("a\tb"), ["a\tb"])
        self.assertEqual(cut_words("a,b/c"), ["a,b/c"])

    def test_joined_with_one_blank(self):
        self.assertEqual(join_words(["man", "tom", "north", 3]), "man tom north 3")
        self.assertEqual(join_words(["next", 1]), "next 1")
        self.assertEqual(join_words(["on", -4, "die", "tom"]), "on -4 die tom")
        self.assertEqual(join_words(["undo"]), "undo")
        self.assertEqual(join_words([]), "")

    def test_there_and_back(self):
        for row in ("side north", "cartel a b 1 2 4 8 16 32 100", "deed 1 0 swap a b / y", "deed 2 0 swap a b x /"):
            self.assertEqual(join_words(cut_words(row)), row)

    def test_what_is_handed_in_stays_and_what_is_told_is_new(self):
        parts = ["next", 7]
        join_words(parts)
        self.assertEqual(parts, ["next", 7])
        told = cut_words("next 7")
        told.append("more")
        self.assertEqual(cut_words("next 7"), ["next", "7"])


if __name__ == "__main__":
    unittest.main()
