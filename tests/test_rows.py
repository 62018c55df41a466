"""Points [16] and [17], and the interface of cartelship/rows.py."""

import random
import unittest

from cartelship.book import Book
from cartelship.errors import BadRow
from cartelship.rows import book_rows, read_book
from helper import PlainBook, camp, days_around, do, held_in, outcome, plain_read, random_deed, random_step, steps_of, told

ROWS = [
    "side blue",
    "side gray",
    "side red",
    "man ann red 0",
    "man blue gray 2",
    "man bob red 1",
    "man cid red 3",
    "man dan blue 0",
    "man eve blue 1",
    "cartel blue gray 1 1 3 6 6 12 20",
    "cartel blue red 1 2 4 4 8 16 7",
    "deed 4 0 rank ann 2",
    "deed 9 3 take ann blue",
    "deed 2 5 take dan red",
    "deed 3 5 take cid blue",
    "deed 6 5 word ann",
    "deed 1 8 swap red blue cid ann / dan",
    "deed 7 9 take bob gray",
    "deed 8 9 flee bob",
    "deed 10 9 take bob gray",
    "deed 11 9 free bob",
    "deed 5 1000000 die bob",
    "next 14",
]
WORDS = (
    "", "A", "nobody", "nowhere", "red", "ann", "blue", "/", "-", "-1", "+1", "0", "00", "01", "007", "1", "2", "5", "6", "8",
    "99", "1000000", "1000001", "9999999999", "10000000000", "99999999999", "1.0", "abcdefghi", "take", "word", "swap", "die",
    "side", "man", "cartel", "deed", "next", "on", "~",
)


def place_of_fault(rows):
    """The place of the first wrong row, or None where all are read."""
    try:
        read_book(rows)
    except BadRow as refusal:
        return refusal.at
    return None


def other_words(rows, place):
    words = rows[place].split(" ")
    for at in range(len(words)):
        for word in WORDS + ("0" + words[at], words[at] + "0", words[at] + "x", words[at] + " ", words[at] + "\u007e"):
            yield " ".join(words[:at] + [word] + words[at + 1:])
        yield " ".join(words[:at] + words[at + 1:])
        yield " ".join(words[:at] + [words[at]] + words[at:])
        if at > 0:
            yield " ".join(words[:at - 1] + [words[at], words[at - 1]] + words[at + 1:])
    yield " " + rows[place]


def spoiled(rows):
    """Rows with one thing changed."""
    for place, row in enumerate(rows):
        yield rows[:place] + rows[place + 1:]
        yield rows[:place] + [row] + rows[place:]
        yield rows + [row]
        yield rows[:place]
        yield [row] + rows
        for other in range(place + 1, len(rows)):
            yield rows[:place] + [rows[other]] + rows[place + 1:other] + [row] + rows[other + 1:]
        for changed in other_words(rows, place):
            yield rows[:place] + [changed] + rows[place + 1:]


class Case(unittest.TestCase):
    def assertWrong(self, at, rows):
        with self.subTest(at=at, row=rows[at] if at < len(rows) else "the end"):
            kept = list(rows)
            with self.assertRaises(BadRow) as taken:
                read_book(rows)
            self.assertEqual(taken.exception.at, at)
            self.assertEqual(rows, kept)

    def assertChanged(self, at, row):
        """The row alone is wrong where it stands in the place of another one."""
        self.assertWrong(at, ROWS[:at] + [row] + ROWS[at + 1:])

    def assertAgain(self, book, rows):
        read = read_book(rows)
        self.assertIsInstance(read, Book)
        self.assertEqual(told(read, days_around(book)), told(book, days_around(book)))
        self.assertEqual(steps_of(read), ([], []))
        self.assertEqual(book_rows(read), rows)


class Written(Case):
    def test_an_empty_book(self):
        self.assertEqual(book_rows(Book()), ["next 1"])
        self.assertAgain(Book(), ["next 1"])

    def test_every_kind_of_row(self):
        book = Book()
        for side in ("red", "gray", "blue"):
            book.side(side)
        for name, side, rank in (("eve", "blue", 1), ("ann", "red", 0), ("bob", "red", 1), ("cid", "red", 3)):
            book.man(name, side, rank)
        book.man("blue", "gray", 2)
        book.man("dan", "blue", 0)
        book.cartel("red", "blue", [1, 2, 4, 4, 8, 16], 7)
        book.cartel("gray", "blue", [1, 1, 3, 6, 6, 12], 20)
        book.take(8, "cid", "blue")
        book.take(5, "dan", "red")
        book.word(9, "cid")
        book.rank(0, "ann", 2)
        book.swap(10, "red", "blue", ["cid"], ["dan"])
        book.die(10 ** 6, "bob")
        book.strike(6)
        self.assertEqual(book_rows(book), ROWS[:11] + [
            "deed 4 0 rank ann 2", "deed 2 5 take dan red", "deed 1 8 take cid blue", "deed 3 9 word cid",
            "deed 5 10 swap red blue cid / dan", "next 7"])

    def test_exchanges(self):
        book = camp(Book())
        for name in ("bob", "ann"):
            book.take(1, name, "blue")
        book.take(1, "dan", "red")
        book.swap(2, "red", "blue", ["bob"], [])
        book.swap(2, "red", "blue", [], ["dan"])
        book.strike(4)
        book.swap(3, "red", "blue", ["bob", "ann"], [])
        book.take(4, "dan", "red")
        book.take(4, "ann", "blue")
        book.swap(5, "blue", "red", ["dan"], ["ann"])
        rows = [row for row in book_rows(book) if "swap" in row]
        self.assertEqual(rows, ["deed 5 2 swap red blue / dan", "deed 6 3 swap red blue bob ann /",
                                "deed 9 5 swap blue red dan / ann"])
        self.assertAgain(book, book_rows(book))

    def test_the_rank_he_came_with(self):
        book = camp(Book())
        book.rank(1, "ann", 5)
        self.assertIn("man ann red 0", book_rows(book))

    def test_a_new_list_each_time(self):
        book = camp(Book())
        rows = book_rows(book)
        self.assertIs(type(rows), list)
        rows.clear()
        self.assertEqual(book_rows(book)[0], "side blue")
        self.assertEqual(len(book.sides()), 3)

    def test_writing_changes_nothing(self):
        book = camp(Book())
        book.undo()
        before = (held_in(book), steps_of(book))
        book_rows(book)
        self.assertEqual((held_in(book), steps_of(book)), before)


class Read(Case):
    def test_there_and_back(self):
        book = read_book(ROWS)
        self.assertEqual(book_rows(book), ROWS)
        self.assertEqual((book.upcoming(), len(book.deeds())), (14, 11))
        self.assertEqual(book.stands("bob", 10 ** 6), "gone")
        self.assertEqual([book.account("red", "blue", day) for day in (7, 8)], [0, 7])
        self.assertEqual(steps_of(book), ([], []))
        self.assertEqual((outcome(book.undo), outcome(book.redo)), ("NoStep", "NoStep"))
        self.assertEqual(book.die(7, "eve"), 14)
        self.assertEqual(book.upcoming(), 15)
        book.undo()
        self.assertEqual(book_rows(book), ROWS)
        self.assertEqual(outcome(book.undo), "NoStep")

    def test_random_books(self):
        for seed in range(30):
            source = random.Random(4000 + seed)
            book, plain = camp(Book()), camp(PlainBook())
            for turn in range(60):
                step = random_step(source, plain)
                self.assertEqual(do(book, step), do(plain, step))
            self.assertAgain(book, book_rows(book))

    def test_what_is_read_goes_its_own_way(self):
        rows = list(ROWS)
        one, other = read_book(rows), read_book(rows)
        one.strike(5)
        one.side("white")
        self.assertEqual(rows, ROWS)
        self.assertEqual(book_rows(other), ROWS)
        rows.clear()
        self.assertEqual(book_rows(other), ROWS)

    def test_the_bounds(self):
        sides = [f"side {sign}" for sign in "abcdef"]
        men = [f"man x{first}{second} a 5" for first in "abcd" for second in "abcdefghij"]
        deeds = [f"deed {number} {number} rank xaa {number % 6}" for number in range(1, 121)]
        self.assertEqual(book_rows(read_book(sides + men + deeds + ["next 121"])), sides + men + deeds + ["next 121"])
        self.assertWrong(6, sides + ["side g"] + men + ["next 1"])
        self.assertWrong(46, sides + men + ["man y a 5"] + ["next 1"])
        self.assertWrong(166, sides + men + deeds + ["deed 121 121 rank xaa 0", "next 122"])

    def test_numbers_as_great_as_words_can_be(self):
        rows = ["side a", "side b", "man x a 0", "deed 9999999998 0 take x b", "next 9999999999"]
        book = read_book(rows)
        self.assertEqual(book_rows(book), rows)
        self.assertEqual(book.die(0, "x"), 9999999999)
        self.assertEqual(book.upcoming(), 10 ** 10)
        self.assertWrong(4, rows[:4] + ["next 10000000000"])
        self.assertWrong(3, rows[:3] + ["deed 10000000000 0 take x b", "next 9999999999"])

    def test_any_next_number_above(self):
        for number in (12, 13, 500):
            self.assertEqual(read_book(ROWS[:-1] + [f"next {number}"]).upcoming(), number)


class Wrong(Case):
    def test_no_next_one(self):
        self.assertWrong(0, [])
        for many in range(len(ROWS)):
            self.assertWrong(many, ROWS[:many])

    def test_what_is_no_row(self):
        for place in range(len(ROWS)):
            for row in ("", " ", "what", "side", "man", "cartel", "deed", "next", "next x", "/", "on 3 die ann", "undo",
                        ROWS[place] + " ", " " + ROWS[place], ROWS[place].replace(" ", "  ", 1), ROWS[place].upper(),
                        ROWS[place] + " x", ROWS[place] + " 1", ROWS[place].replace(" ", ",", 1)):
                if row.count("/") != 1 or not row.endswith(" x"):
                    self.assertChanged(place, row)
        self.assertChanged(16, ROWS[16] + " x")

    def test_kinds_out_of_order(self):
        # A row of a later kind is right where it can be done, and then the row of the kind ahead is not.
        self.assertWrong(2, ROWS[:2] + [ROWS[3], ROWS[2]] + ROWS[4:])
        self.assertWrong(3, ROWS[:2] + [ROWS[4], ROWS[2], "next 1"])
        self.assertWrong(9, ROWS[:8] + [ROWS[9], ROWS[8]] + ROWS[10:])
        self.assertWrong(11, ROWS[:10] + [ROWS[11], ROWS[10]] + ROWS[12:])
        self.assertWrong(1, [ROWS[-1]] + ROWS)
        self.assertWrong(22, ROWS[:21] + [ROWS[22], ROWS[21]])

    def test_behind_the_next_one(self):
        for row in ROWS + ["next 15", "side zoo", "", "what"]:
            self.assertWrong(len(ROWS), ROWS + [row])
        self.assertWrong(1, ["next 1", "next 2"])

    def test_names_out_of_order(self):
        self.assertWrong(1, ["side b", "side a", "next 1"])
        self.assertWrong(1, ["side a", "side a", "next 1"])
        self.assertWrong(3, ["side a", "side b", "man y a 0", "man x a 0", "next 1"])
        self.assertWrong(3, ["side a", "side b", "man y a 0", "man y b 0", "next 1"])
        self.assertEqual(read_book(["side a", "side b", "man x b 0", "man y a 0", "next 1"]).men(),
                         [("x", "b", 0), ("y", "a", 0)])

    def test_cartels(self):
        sides = ["side a", "side b", "side c"]
        good = "1 2 4 8 16 32 5"
        for rows, at in (
                ([f"cartel b a {good}"], 3), ([f"cartel a a {good}"], 3), ([f"cartel a d {good}"], 3),
                ([f"cartel a b {good}", f"cartel a b {good}"], 4), ([f"cartel a c {good}", f"cartel a b {good}"], 4),
                ([f"cartel b c {good}", f"cartel a c {good}"], 4), (["cartel a b 1 2 4 8 16 5"], 3),
                (["cartel a b 1 2 4 8 16 33 5"], 3), (["cartel a b 0 2 4 8 16 32 5"], 3), ([f"cartel a b {good} 5"], 3),
                (["cartel a b 1 2 4 8 16 32 1000001"], 3), (["cartel a b 1 2 4 8 16 32 -1"], 3),
                ([f"cartel a b {good}", f"cartel a c {good}", f"cartel b c {good}", f"cartel c a {good}"], 6)):
            self.assertWrong(at, sides + rows + ["next 1"])
        rows = sides + [f"cartel a b {good}", f"cartel a c {good}", f"cartel b c {good}", "next 1"]
        self.assertEqual(book_rows(read_book(rows)), rows)

    def test_deeds_out_of_order(self):
        rows = ["side a", "side b", "man x a 0"]
        for ahead, behind in (("2 5", "1 5"), ("1 6", "2 5"), ("1 5", "1 5"), ("1 5", "1 6"), ("3 1", "3 2"), ("1 1", "0 2")):
            self.assertWrong(4, rows + [f"deed {ahead} rank x 1", f"deed {behind} rank x 2", "next 9"])
        for ahead, behind in (("1 5", "2 5"), ("2 5", "1 6"), ("9 0", "1 1000000")):
            written = rows + [f"deed {ahead} rank x 1", f"deed {behind} rank x 2", "next 10"]
            self.assertEqual(book_rows(read_book(written)), written)

    def test_numbers_of_deeds(self):
        rows = ["side a", "side b", "man x a 0"]
        for number in ("0", "-1", "01", "x", "", "10000000000", "1.0"):
            self.assertWrong(3, rows + [f"deed {number} 5 rank x 1", "next 9"])
        self.assertWrong(5, rows + ["deed 7 1 rank x 1", "deed 3 2 rank x 1", "deed 7 3 rank x 1", "next 9"])

    def test_the_next_number(self):
        rows = ["side a", "side b", "man x a 0", "deed 7 1 rank x 1", "deed 3 2 rank x 1"]
        for number in ("0", "-1", "1", "3", "4", "6", "7", "08", "x", "", "80000000000"):
            self.assertWrong(5, rows + [f"next {number}"])
        self.assertEqual(read_book(rows + ["next 8"]).upcoming(), 8)
        self.assertWrong(0, ["next 0"])

    def test_days(self):
        rows = ["side a", "side b", "man x a 0"]
        for day in ("-1", "1000001", "01", "x", "", "-0", "10000000000"):
            self.assertWrong(3, rows + [f"deed 1 {day} rank x 1", "next 9"])

    def test_whose_doing_would_be_refused(self):
        for row in ("take ann red", "take nobody blue", "take ann nowhere", "word ann", "word nobody", "free ann", "flee ann",
                    "rank ann 6", "rank nobody 1", "die nobody", "swap red blue ann /", "swap red blue /",
                    "swap red gray ann /", "swap red red ann /", "swap red nowhere ann /", "swap red blue ann / ann",
                    "swap red blue nobody /"):
            self.assertWrong(11, ROWS[:11] + ["deed 1 5 " + row, "next 2"])
        self.assertWrong(12, ROWS[:11] + ["deed 1 5 take ann blue", "deed 2 5 take ann gray", "next 3"])
        self.assertWrong(12, ROWS[:11] + ["deed 1 5 die ann", "deed 2 5 rank ann 1", "next 3"])
        self.assertWrong(12, ROWS[:11] + ["deed 1 5 take cid blue", "deed 2 5 swap red blue cid", "next 3"])

    def test_uneven(self):
        rows = ["side a", "side b", "man x a 0", "cartel a b 5 5 5 5 5 5 4", "deed 1 1 take x b", "deed 2 2 swap a b x /"]
        self.assertWrong(5, rows + ["next 3"])
        rows[3] = "cartel a b 5 5 5 5 5 5 5"
        self.assertEqual(read_book(rows + ["next 3"]).account("a", "b", 2), 5)

    def test_looked_at_behind_the_rows_ahead_alone(self):
        # The row that can not stand is the one of the word, though striking the dying would mend it.
        rows = ROWS[:11] + ["deed 5 1 take ann blue", "deed 1 2 die ann", "deed 2 3 word ann", "what", "next 6"]
        self.assertWrong(13, rows)

    def test_men(self):
        for row in ("man ann red 6", "man ann nowhere 0", "man ann red -1", "man ann red", "man ann red 0 0", "man Ann red 0",
                    "man abcdefghi red 0", "man ann red 00", "man ann red zero"):
            self.assertWrong(3, ROWS[:3] + [row] + ["next 1"])

    def test_against_a_second_reading(self):
        wrong = 0
        for rows in spoiled(ROWS):
            kept = list(rows)
            wanted = plain_read(rows)
            if isinstance(wanted, int):
                wrong += 1
                self.assertEqual(place_of_fault(rows), wanted, rows)
            else:
                book = read_book(rows)
                self.assertEqual(held_in(book), held_in(wanted))
                self.assertEqual(book_rows(book), rows)
            self.assertEqual(rows, kept)
        self.assertGreater(wrong, 3000)

    def test_against_a_second_reading_of_random_books(self):
        for seed in range(12):
            source = random.Random(5000 + seed)
            plain = camp(PlainBook())
            book = camp(Book())
            for turn in range(25):
                step = ("deed", source.randint(0, 9), random_deed(source, plain, source.randint(0, 9)))
                self.assertEqual(do(book, step), do(plain, step))
            changes = list(spoiled(book_rows(book)))
            for rows in source.sample(changes, 150):
                wanted = plain_read(rows)
                self.assertEqual(place_of_fault(rows), wanted if isinstance(wanted, int) else None, rows)


if __name__ == "__main__":
    unittest.main()
