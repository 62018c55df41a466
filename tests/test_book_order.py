"""Points [11] and [12]: deeds told in any order, struck, redated, cartels set anew, against a plain going-through."""

import random
import unittest

from cartelship.book import Book
from helper import BookCase, PlainBook, camp, days_around, do, held_in, plain_steps_of, random_deed, random_step
from helper import steps_of, told

DEEDS_OF_ANN = (
    (10, ("take", "ann", "blue")), (20, ("word", "ann")), (30, ("take", "ann", "gray")), (40, ("flee", "ann")),
    (50, ("take", "ann", "blue")), (60, ("swap", "red", "blue", ("ann",), ())), (70, ("rank", "ann", 3)),
    (80, ("die", "ann")),
)


def told_deeds(entries):
    book = camp(Book())
    for day, deed in entries:
        assert isinstance(do(book, ("deed", day, deed)), int), (day, deed)
    return book


class Numbers(BookCase):
    def test_in_the_order_in_which_they_are_told(self):
        book = camp(Book())
        for number, day in enumerate((9, 3, 3, 7, 0, 9, 3), start=1):
            self.assertEqual(book.upcoming(), number)
            self.assertEqual(book.rank(day, "ann", number % 6), number)
        self.assertEqual([entry[:2] for entry in book.deeds()], [(5, 0), (2, 3), (3, 3), (7, 3), (4, 7), (1, 9), (6, 9)])
        self.assertEqual([book.rank_of("ann", day) for day in (-1, 0, 2, 3, 7, 8, 9)], [0, 5, 5, 1, 4, 4, 0])

    def test_no_number_comes_again(self):
        book = camp(Book())
        for day in (1, 2, 3):
            book.rank(day, "ann", day)
        book.strike(3)
        self.assertEqual(book.upcoming(), 4)
        self.assertEqual(book.rank(1, "ann", 0), 4)
        book.strike(1)
        book.strike(2)
        book.strike(4)
        self.assertEqual((book.deeds(), book.upcoming()), ([], 5))
        self.assertEqual(book.rank(1, "ann", 0), 5)

    def test_a_refused_deed_takes_no_number(self):
        book = camp(Book())
        book.take(3, "ann", "blue")
        for step in (("deed", 4, ("take", "ann", "blue")), ("deed", 2, ("die", "ann")), ("deed", -1, ("die", "ann"))):
            self.assertNotEqual(do(book, step), 2)
            self.assertEqual(book.upcoming(), 2)
        self.assertEqual(book.die(3, "ann"), 2)

    def test_on_one_day_in_order_of_numbers(self):
        book = camp(Book())
        book.take(3, "ann", "blue")
        book.free(3, "ann")
        book.take(3, "ann", "gray")
        self.assertEqual(book.holder("ann", 3), "gray")
        self.assertEqual(book.stands("ann", 2), "free")


class Late(BookCase):
    def test_a_deed_told_late_stands_where_its_day_puts_it(self):
        book = told_deeds([(10, ("take", "ann", "blue")), (20, ("word", "ann"))])
        book.rank(15, "ann", 2)
        self.assertEqual([entry[0] for entry in book.deeds()], [1, 3, 2])
        self.assertEqual([book.rank_of("ann", day) for day in (14, 15, 20)], [0, 2, 2])

    def test_its_own_refusal(self):
        book = told_deeds(DEEDS_OF_ANN)
        for day, deed, why in (
                (5, ("word", "ann"), "NotHeld"), (15, ("take", "ann", "gray"), "Held"),
                (5, ("take", "ann", "red"), "Own"), (90, ("rank", "ann", 1), "Gone"), (25, ("free", "ann"), "NotHeld"),
                (35, ("swap", "blue", "red", ("dan",), ("ann",)), "OffRoll"), (80, ("die", "ann"), "Gone")):
            self.assertRefused(book, why, ("deed", day, deed))

    def test_breaks_with_the_first_that_is_refused(self):
        book = told_deeds(DEEDS_OF_ANN)
        for day, deed, number in (
                (5, ("take", "ann", "gray"), 1), (5, ("die", "ann"), 1), (10, ("free", "ann"), 2), (19, ("die", "ann"), 2),
                (20, ("take", "ann", "gray"), 3), (39, ("word", "ann"), 4), (40, ("take", "ann", "blue"), 5),
                (50, ("free", "ann"), 6), (65, ("die", "ann"), 7), (75, ("die", "ann"), 8)):
            self.assertRefused(book, f"Breaks {number}", ("deed", day, deed))

    def test_by_the_order_of_days_not_of_numbers(self):
        book = told_deeds([(40, ("take", "ann", "blue")), (30, ("take", "bob", "blue"))])
        book.free(60, "ann")
        book.free(50, "bob")
        self.assertRefused(book, "Breaks 2", ("deed", 20, ("die", "bob")))
        self.assertRefused(book, "Breaks 4", ("deed", 45, ("die", "bob")))
        self.assertRefused(book, "Breaks 1", ("deed", 20, ("die", "ann")))
        self.assertRefused(book, "Breaks 4", ("strike", 2))
        self.assertRefused(book, "Breaks 2", ("deed", 29, ("take", "bob", "gray")))

    def test_uneven_and_off_roll_of_later_exchanges(self):
        book = camp(Book())
        for name in ("ann", "bob", "cid"):
            book.take(1, name, "blue")
        book.swap(9, "red", "blue", ["cid", "ann"], [])
        self.assertRefused(book, "Breaks 4", ("deed", 8, ("swap", "blue", "red", (), ("bob",))))
        self.assertRefused(book, "Breaks 4", ("deed", 8, ("flee", "cid")))
        self.assertRefused(book, "Breaks 4", ("deed", 8, ("rank", "cid", 5)))
        self.assertRefused(book, "Uneven", ("deed", 9, ("swap", "red", "blue", ("bob",), ())))
        self.assertEqual(book.word(8, "cid"), 5)
        self.assertEqual(book.stands("cid", 9), "free")


class Struck(BookCase):
    def test_strike(self):
        book = told_deeds(DEEDS_OF_ANN)
        # A taking without its word leaves her held where the next one takes her, and so on.
        for number, why in ((1, "Breaks 2"), (2, "Breaks 3"), (3, "Breaks 4"), (4, "Breaks 5"), (5, "done"), (6, "done"),
                            (7, "done"), (8, "done"), (9, "NoDeed"), (0, "NoDeed"), (-1, "NoDeed"), (10 ** 30, "NoDeed")):
            with self.subTest(number=number):
                other = book.twin()
                self.assertEqual(do(other, ("strike", number)), why)
                gone = [number] if why == "done" else []
                self.assertEqual([entry[0] for entry in other.deeds()], [each for each in range(1, 9) if each not in gone])
                self.assertEqual(other.upcoming(), 9)
                if why != "done":
                    self.assertRefused(book, why, ("strike", number))

    def test_a_number_gone_is_no_deed(self):
        book = told_deeds(DEEDS_OF_ANN)
        self.assertIsNone(book.strike(8))
        for step in (("strike", 8), ("redate", 8, 5), ("redate", 8, -1), ("redate", 9, 5), ("redate", 0, 5), ("redate", -3, 5)):
            self.assertRefused(book, "NoDeed", step)
        self.assertEqual(book.stands("ann", 90), "free")

    def test_the_struck_deed_of_a_later_number_may_stand_ahead(self):
        book = told_deeds([(5, ("take", "ann", "blue")), (9, ("free", "ann"))])
        book.take(12, "ann", "blue")
        book.rank(1, "ann", 3)
        self.assertIsNone(book.strike(4))
        self.assertRefused(book, "Breaks 3", ("strike", 2))


class Redated(BookCase):
    def test_redate(self):
        book = told_deeds(DEEDS_OF_ANN)
        for number, day, why in (
                (1, 10, "done"), (1, 0, "done"), (1, 20, "done"), (1, 21, "Breaks 2"), (1, 10 ** 6, "Breaks 2"),
                (2, 9, "Breaks 2"), (2, 10, "done"), (2, 30, "done"), (2, 31, "Breaks 3"), (3, 20, "done"),
                (3, 19, "Breaks 3"), (8, 69, "Breaks 7"), (8, 70, "done"), (8, 5, "Breaks 1"), (7, 0, "done"),
                (6, 9, "Breaks 6"), (6, 19, "Breaks 2"), (6, 49, "done"), (6, 50, "done"), (6, 25, "done"), (6, 80, "done"), (6, 81, "Breaks 6"),
                (5, 60, "done"), (5, 61, "done"), (5, 10 ** 6, "Breaks 5"), (1, -1, "BadDay"), (1, 10 ** 6 + 1, "BadDay"),
                (8, 10 ** 6, "done"), (9, -1, "NoDeed"), (0, 3, "NoDeed")):
            with self.subTest(number=number, day=day):
                other = book.twin()
                plain = camp(PlainBook())
                for each in DEEDS_OF_ANN:
                    plain.tell(*each)
                self.assertEqual(plain.redate(number, day), why)
                self.assertEqual(do(other, ("redate", number, day)), why)
                days = days_around(plain)
                self.assertEqual(told(other, days), told(plain, days))
                if why != "done":
                    self.assertRefused(book, why, ("redate", number, day))

    def test_it_keeps_its_number(self):
        book = told_deeds([(5, ("rank", "ann", 1)), (5, ("rank", "ann", 2)), (9, ("rank", "ann", 3))])
        self.assertIsNone(book.redate(3, 5))
        self.assertEqual([entry[:2] for entry in book.deeds()], [(1, 5), (2, 5), (3, 5)])
        self.assertIsNone(book.redate(1, 7))
        self.assertEqual([entry[:2] for entry in book.deeds()], [(2, 5), (3, 5), (1, 7)])
        self.assertIsNone(book.redate(1, 5))
        self.assertEqual([entry[:2] for entry in book.deeds()], [(1, 5), (2, 5), (3, 5)])
        self.assertEqual((book.upcoming(), book.rank_of("ann", 5)), (4, 3))

    def test_breaks_where_the_redated_one_itself_is_refused(self):
        book = told_deeds([(5, ("take", "ann", "blue")), (9, ("free", "ann"))])
        self.assertRefused(book, "Breaks 2", ("redate", 2, 4))
        self.assertRefused(book, "Breaks 2", ("redate", 1, 10))


class CartelsAnew(BookCase):
    def setUp(self):
        self.book = camp(Book())
        for name in ("ann", "bob", "cid"):
            self.book.take(1, name, "blue")
        self.book.take(1, "fay", "red")
        self.book.swap(9, "red", "blue", ["cid"], ["fay"])
        self.book.swap(5, "red", "blue", ["bob"], [])
        self.book.swap(7, "blue", "red", [], ["ann"])

    def test_another_limit(self):
        same = [1, 2, 4, 4, 8, 16]
        for limit, why in ((3, "done"), (2, "Breaks 7"), (1, "Breaks 6"), (0, "Breaks 6"), (10 ** 6, "done")):
            for pair in (("red", "blue"), ("blue", "red")):
                other = self.book.twin()
                self.assertEqual(do(other, ("cartel", *pair, same, limit)), why)
                if why != "done":
                    self.assertRefused(self.book, why, ("cartel", *pair, same, limit))

    def test_another_tariff(self):
        for worths, limit, why in (
                ([1, 1, 1, 1, 1, 1], 2, "done"), ([1, 1, 1, 1, 1, 1], 1, "Breaks 7"), ([5, 5, 5, 5, 5, 5], 4, "Breaks 6"),
                ([1, 1, 1, 10, 10, 10], 10, "Breaks 5"), ([1, 1, 1, 10, 10, 10], 11, "done"), ([6] * 6, 11, "Breaks 7")):
            with self.subTest(worths=worths, limit=limit):
                other = self.book.twin()
                self.assertEqual(do(other, ("cartel", "blue", "red", worths, limit)), why)
                if why == "done":
                    went = worths[3] - worths[2] + worths[1] + worths[0]
                    self.assertEqual(other.account("red", "blue", 9), went)
                    self.assertEqual(other.cartels()[1], ("blue", "red", tuple(worths), limit))
                else:
                    self.assertRefused(self.book, why, ("cartel", "blue", "red", worths, limit))

    def test_a_cartel_of_others_breaks_nothing(self):
        self.assertIsNone(self.book.cartel("red", "gray", [1] * 6, 0))
        self.assertIsNone(self.book.cartel("blue", "gray", [1] * 6, 0))

    def test_a_lesser_limit_holds_from_then_on(self):
        self.book.cartel("red", "blue", [1, 2, 4, 4, 8, 16], 3)
        self.book.take(10, "ann", "blue")
        self.assertRefused(self.book, "Uneven", ("deed", 10, ("swap", "red", "blue", ("ann",), ())))
        self.book.cartel("red", "blue", [1, 2, 4, 4, 8, 16], 4)
        self.assertEqual(self.book.swap(10, "red", "blue", ["ann"], []), 9)


class AgainstPlain(BookCase):
    def assertSame(self, book, plain):
        days = days_around(plain)
        self.assertEqual(told(book, days), told(plain, days))
        self.assertEqual(steps_of(book), plain_steps_of(plain))

    def test_steps_of_all_kinds(self):
        for seed in range(50):
            source = random.Random(seed)
            book, plain = camp(Book()), camp(PlainBook())
            for turn in range(70):
                step = random_step(source, plain)
                with self.subTest(seed=seed, turn=turn, step=step):
                    self.assertEqual(do(book, step), do(plain, step))
                    self.assertEqual(held_in(book), held_in(plain))
            self.assertSame(book, plain)

    def test_asked_at_each_step(self):
        for seed in range(8):
            source = random.Random(1000 + seed)
            book, plain = camp(Book()), camp(PlainBook())
            for turn in range(40):
                step = random_step(source, plain, 6)
                with self.subTest(seed=seed, turn=turn, step=step):
                    self.assertEqual(do(book, step), do(plain, step))
                    self.assertSame(book, plain)

    def test_the_same_deeds_told_in_another_order(self):
        for seed in range(40):
            source = random.Random(2000 + seed)
            plain = camp(PlainBook())
            for day in range(25):
                plain.tell(day, random_deed(source, plain, day, 0))
            entries = [(day, deed) for number, day, deed in plain.deeds()]
            self.assertGreater(len(entries), 8)
            days = days_around(plain)
            wanted = {key: answer for key, answer in told(plain, days).items() if key != "held" and key[0] != "line"}
            book = camp(Book())
            # What is refused for what is not told yet is told once more, until all of it stands.
            waiting = list(entries)
            source.shuffle(waiting)
            for turn in range(30):
                waiting = [(day, deed) for day, deed in waiting if not isinstance(do(book, ("deed", day, deed)), int)]
            if not waiting:
                self.assertEqual([entry[1:] for entry in book.deeds()], entries)
                answers = told(book, days)
                self.assertEqual({key: answers[key] for key in wanted}, wanted)

    def test_a_full_book(self):
        source = random.Random(77)
        book, plain = camp(Book()), camp(PlainBook())
        turns = 0
        while len(plain.deeds()) < 120 and turns < 3000:
            turns += 1
            day = source.randint(0, 90)
            step = ("deed", day, random_deed(source, plain, day, 0.02))
            if step[2][0] != "die":
                self.assertEqual(do(book, step), do(plain, step))
        self.assertEqual(len(book.deeds()), 120)
        self.assertEqual(do(book, ("deed", 3, ("die", "ann"))), "Full")
        days = [-1, 0, 10, 45, 90, 91]
        self.assertEqual(told(book, days), told(plain, days))


if __name__ == "__main__":
    unittest.main()
