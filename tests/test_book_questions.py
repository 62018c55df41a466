"""Points [3] to [5], [8], [9], [10] and [15]: what is asked of the book, and what is told anew each time."""

import random
import unittest

from cartelship.book import Book
from cartelship.papers import bars
from helper import PlainBook, camp, days_around, do, first_who_make, fullest_of_tables, in_table, outcome, random_deed
from helper import sums_table, whole

DAYS = (-10 ** 40, -1, 0, 3, 10 ** 6, 10 ** 6 + 1, 10 ** 40)


def counts_of(roll):
    return [sum(entry[1] == rank for entry in roll) for rank in range(6)]


def random_camp(seed, turns=60):
    source = random.Random(seed)
    book, plain = camp(Book()), camp(PlainBook())
    for sign in "abcdefghijklmnop":
        step = ("man", "x" + sign, source.choice(["red", "blue"]), source.randint(0, 5))
        assert do(book, step) == do(plain, step) == "done"
    for turn in range(turns):
        day = source.randint(0, 30)
        deed = random_deed(source, plain, day, 0)
        # Few go home, so that the rolls grow.
        if deed[0] not in ("die", "free", "flee", "swap") or turn % 4 == 0:
            assert do(book, ("deed", day, deed)) == do(plain, ("deed", day, deed))
    return book, plain


class Refusals(unittest.TestCase):
    def test_no_such_man(self):
        book = camp(Book())
        for question in ("stands", "holder", "words", "rank_of", "may_serve", "line"):
            for name in ("nobody", "", "red", "Ann", "a b", "x" * 50):
                for day in DAYS:
                    self.assertEqual(outcome(getattr(book, question), name, day), "NoMan")

    def test_two_sides(self):
        book = camp(Book())
        for day in DAYS:
            for one, other, why in (
                    ("nowhere", "red", "NoSide"), ("red", "nowhere", "NoSide"), ("ann", "red", "NoSide"),
                    ("", "", "NoSide"), ("nowhere", "nowhere", "NoSide"), ("ann", "ann", "NoSide"), ("red", "red", "Own")):
                for question in ("roll", "account", "fullest", "paper"):
                    self.assertEqual(outcome(getattr(book, question), one, other, day), why)
            for one, other in (("red", "gray"), ("gray", "red")):
                self.assertEqual(book.roll(one, other, day), [])
                self.assertEqual(book.account(one, other, day), 0)
                self.assertEqual(outcome(book.fullest, one, other, day), "NoCartel")
                self.assertEqual(outcome(book.paper, one, other, day), "NoCartel")

    def test_in_an_empty_book(self):
        self.assertEqual(outcome(Book().stands, "ann", 0), "NoMan")
        for question in ("roll", "account", "fullest", "paper"):
            self.assertEqual(outcome(getattr(Book(), question), "a", "a", 0), "NoSide")


class AnyDay(unittest.TestCase):
    def test_behind_all_deeds_of_that_day(self):
        book = camp(Book())
        book.take(0, "ann", "blue")
        book.word(0, "ann")
        book.take(10 ** 6, "ann", "gray")
        self.assertEqual([book.stands("ann", day) for day in DAYS], ["free", "free", "word", "word", "held", "held", "held"])
        self.assertEqual([book.holder("ann", day) for day in DAYS], ["", "", "", "", "gray", "gray", "gray"])
        self.assertEqual([len(book.roll("red", "blue", day)) for day in DAYS], [0, 0, 1, 1, 1, 1, 1])
        self.assertEqual([book.line("ann", day) for day in DAYS], [[], [], [1, 2], [1, 2], [1, 2, 3], [1, 2, 3], [1, 2, 3]])
        self.assertEqual([book.may_serve("ann", day) for day in DAYS], [True, True] + [False] * 5)


class Lines(unittest.TestCase):
    def test_all_deeds_that_name_him_in_the_deeds_order(self):
        book = camp(Book())
        book.take(5, "ann", "blue")
        book.take(4, "dan", "red")
        book.rank(1, "ann", 1)
        book.swap(9, "red", "blue", ["ann"], ["dan"])
        book.die(12, "ann")
        book.rank(9, "dan", 3)
        self.assertEqual(book.line("ann", 12), [3, 1, 4, 5])
        self.assertEqual(book.line("ann", 11), [3, 1, 4])
        self.assertEqual(book.line("dan", 9), [2, 4, 6])
        self.assertEqual(book.line("bob", 12), [])
        book.strike(5)
        self.assertEqual(book.line("ann", 12), [3, 1, 4])

    def test_a_side_of_his_name_is_not_he(self):
        book = camp(Book())
        book.take(1, "ann", "blue")
        book.take(2, "dan", "red")
        book.swap(3, "red", "blue", ["ann"], ["dan"])
        self.assertEqual(book.line("blue", 9), [])
        book.take(4, "blue", "red")
        self.assertEqual(book.line("blue", 9), [4])
        self.assertEqual(book.line("ann", 9), [1, 3])


class Fullest(unittest.TestCase):
    def test_told_by_hand(self):
        book = camp(Book())
        self.assertEqual(book.fullest("red", "blue", 0), (0, [], []))
        for name, day in (("cid", 1), ("bob", 2), ("ann", 3)):
            book.take(day, name, "blue")
        book.take(4, "fay", "red")
        self.assertEqual(book.fullest("red", "blue", 4), (4, ["cid"], ["fay"]))
        self.assertEqual(book.fullest("blue", "red", 4), (4, ["fay"], ["cid"]))
        self.assertEqual(book.fullest("red", "blue", 3), (0, [], []))
        book.take(5, "eve", "red")
        self.assertEqual(book.fullest("red", "blue", 5), (6, ["cid", "bob"], ["fay", "eve"]))
        book.free(6, "cid")
        self.assertEqual(book.fullest("red", "blue", 6), (2, ["bob"], ["eve"]))
        book.rank(7, "eve", 0)
        self.assertEqual(book.fullest("red", "blue", 7), (1, ["ann"], ["eve"]))

    def test_of_each_rank_the_first_of_the_roll(self):
        book = camp(Book())
        for name, day in (("zed", 1), ("amy", 2), ("kai", 2), ("abe", 3)):
            book.man(name, "red", 1)
            book.take(day, name, "blue")
        book.word(4, "zed")
        book.take(4, "fay", "red")
        self.assertEqual(book.fullest("red", "blue", 4), (4, ["zed", "amy"], ["fay"]))
        book.take(4, "eve", "red")
        self.assertEqual(book.fullest("red", "blue", 4), (6, ["zed", "amy", "kai"], ["fay", "eve"]))

    def test_ranks_of_one_worth_from_the_highest_down(self):
        book = camp(Book())
        book.rank(0, "ann", 2)
        book.take(1, "ann", "blue")
        book.take(2, "cid", "blue")
        book.take(2, "fay", "red")
        self.assertEqual(book.fullest("red", "blue", 2), (4, ["cid"], ["fay"]))

    def test_by_the_cartel_as_it_stands_now(self):
        book = camp(Book())
        book.take(1, "cid", "blue")
        book.take(1, "dan", "red")
        self.assertEqual(book.fullest("red", "blue", 1), (0, [], []))
        book.cartel("red", "blue", [7] * 6, 0)
        self.assertEqual(book.fullest("red", "blue", 1), (7, ["cid"], ["dan"]))

    def test_kinds(self):
        book = camp(Book())
        book.take(1, "cid", "blue")
        book.take(1, "fay", "red")
        answer = book.fullest("red", "blue", 1)
        self.assertEqual([type(part) for part in answer], [int, list, list])
        self.assertIs(type(answer), tuple)

    def test_against_tables_of_all_sums(self):
        met = 0
        for seed in range(25):
            book, plain = random_camp(seed)
            for one, other, worths, limit in book.cartels():
                for day in (0, 5, 10, 20, 30):
                    ours, theirs = book.roll(one, other, day), book.roll(other, one, day)
                    tables = [sums_table(worths, counts_of(roll)) for roll in (ours, theirs)]
                    many = fullest_of_tables(*tables)
                    answer = book.fullest(one, other, day)
                    self.assertEqual(answer[0], many)
                    self.assertEqual(answer[1], first_who_make(worths, ours, many))
                    self.assertEqual(answer[2], first_who_make(worths, theirs, many))
                    self.assertEqual(book.fullest(other, one, day), (many, answer[2], answer[1]))
                    self.assertTrue(in_table(tables[0], many) and in_table(tables[1], many))
                    met += many > 0
        self.assertGreater(met, 50)

    def test_its_exchange_is_let_and_leaves_the_account(self):
        met = 0
        for seed in range(25):
            book, plain = random_camp(100 + seed, 40)
            last = max(day for number, day, deed in book.deeds())
            for one, other in (("red", "blue"), ("blue", "red"), ("gray", "blue")):
                many, ones, others = book.fullest(one, other, last)
                if many > 0:
                    met += 1
                    account = book.account(one, other, last)
                    book.swap(last, one, other, ones, others)
                    self.assertEqual(book.account(one, other, last), account)
                    left = [entry[0] for entry in book.roll(one, other, last) + book.roll(other, one, last)]
                    self.assertEqual(set(ones + others) & set(left), set())
        self.assertGreater(met, 20)

    def test_the_paper_of_a_day_bars_for_it(self):
        longest = 0
        for seed in range(25):
            book, plain = random_camp(200 + seed)
            for one, other, worths, limit in book.cartels():
                for day in days_around(book):
                    rows = book.paper(one, other, day)
                    longest = max(longest, len(rows))
                    self.assertIs(type(rows), list)
                    ours, theirs = counts_of(book.roll(one, other, day)), counts_of(book.roll(other, one, day))
                    many = book.fullest(one, other, day)[0]
                    self.assertIs(bars(list(worths), ours, theirs, many, rows), True)
                    self.assertIs(bars(list(worths), theirs, ours, many, book.paper(other, one, day)), True)
        self.assertGreater(longest, 0)


class ToldAnew(unittest.TestCase):
    def test_lists_told_and_changed_change_nothing(self):
        book, plain = random_camp(7)
        last = 30
        before = whole(book)
        for ask in (book.sides, book.men, book.cartels, book.deeds, lambda: book.words("ann", last),
                    lambda: book.line("ann", last), lambda: book.roll("red", "blue", last),
                    lambda: book.fullest("red", "blue", last)[1], lambda: book.fullest("red", "blue", last)[2],
                    lambda: book.paper("red", "blue", last)):
            kept = list(ask())
            answer = ask()
            self.assertIs(type(answer), list)
            self.assertIsNot(ask(), answer)
            answer.append("more")
            answer.reverse()
            self.assertEqual(ask(), kept)
            answer.clear()
            self.assertEqual(ask(), kept)
        self.assertEqual(whole(book), before)

    def test_kinds(self):
        book = camp(Book())
        book.take(1, "ann", "blue")
        book.take(1, "dan", "red")
        book.swap(2, "red", "blue", ["ann"], [])
        for entries in (book.men(), book.cartels(), book.deeds()):
            self.assertTrue(all(type(entry) is tuple for entry in entries))
        self.assertIs(type(book.cartels()[0][2]), tuple)
        self.assertEqual([type(part) for part in book.deeds()[-1][2]], [str, str, str, tuple, tuple])
        self.assertEqual([type(deed) for number, day, deed in book.deeds()], [tuple] * 3)
        self.assertIs(type(book.words("ann", 1)), list)


if __name__ == "__main__":
    unittest.main()
