"""Point [14]: what was done last is undone and done again, and a twin goes its own way."""

import random
import unittest

from cartelship.book import Book
from helper import CAMP, PlainBook, camp, days_around, do, held_in, outcome, random_step, steps_of, told, whole

# Every kind of change, among them a redating to the same day and a cartel like the one that is there.
STORY = CAMP + (
    ("deed", 9, ("take", "ann", "blue")), ("deed", 4, ("take", "dan", "red")), ("deed", 5, ("word", "dan")),
    ("deed", 10, ("rank", "ann", 2)), ("redate", 4, 10), ("redate", 4, 9), ("strike", 4),
    ("cartel", "blue", "red", [1, 2, 4, 4, 8, 16], 6), ("deed", 11, ("swap", "red", "blue", ("ann",), ("dan",))),
    ("cartel", "red", "blue", [3, 3, 3, 3, 3, 3], 0), ("deed", 2, ("take", "cid", "gray")), ("deed", 3, ("flee", "cid")),
    ("deed", 12, ("take", "eve", "gray")), ("deed", 12, ("free", "eve")), ("deed", 20, ("die", "bob")),
    ("side", "white"), ("man", "kit", "white", 5), ("strike", 9), ("deed", 20, ("rank", "kit", 0)),
)
QUESTIONS = (
    ("sides",), ("men",), ("cartels",), ("deeds",), ("upcoming",), ("stands", "ann", 5), ("holder", "ann", 5),
    ("words", "ann", 5), ("rank_of", "ann", 5), ("may_serve", "ann", 5), ("line", "ann", 5), ("roll", "red", "blue", 5),
    ("account", "red", "blue", 5), ("fullest", "red", "blue", 5), ("paper", "red", "blue", 5), ("twin",),
    ("stands", "nobody", 5), ("roll", "red", "red", 5), ("fullest", "red", "gray", 5), ("paper", "x", "y", 5),
)
REFUSED = (
    ("side", "red"), ("side", "A"), ("man", "ann", "red", 1), ("cartel", "red", "red", [1] * 6, 0),
    ("cartel", "red", "blue", [1] * 5, 0), ("deed", 9, ("take", "ann", "red")), ("deed", -1, ("die", "ann")),
    ("deed", 0, ("swap", "red", "blue", (), ())), ("strike", 0), ("strike", 99), ("redate", 99, 1),
)


def told_story(steps=STORY):
    book = Book()
    for step in steps:
        answer = do(book, step)
        assert answer == "done" or isinstance(answer, int), (step, answer)
    return book


class Case(unittest.TestCase):
    def assertWhole(self, book, other):
        self.assertEqual(whole(book), whole(other))


class Steps(Case):
    def test_back_to_the_empty_book_and_forth_again(self):
        book = Book()
        kept = [held_in(book)]
        for step in STORY:
            do(book, step)
            kept.append(held_in(book))
        for wanted in reversed(kept[:-1]):
            self.assertIsNone(book.undo())
            self.assertEqual(held_in(book), wanted)
        self.assertEqual(held_in(book), held_in(Book()))
        self.assertEqual(outcome(book.undo), "NoStep")
        self.assertEqual(held_in(book), held_in(Book()))
        for wanted in kept[1:]:
            self.assertIsNone(book.redo())
            self.assertEqual(held_in(book), wanted)
        self.assertEqual(outcome(book.redo), "NoStep")
        self.assertEqual(held_in(book), kept[-1])

    def test_all_that_can_be_asked_is_as_it_was(self):
        book = told_story()
        for many in range(len(STORY) - 1, len(STORY) - 14, -1):
            book.undo()
            fresh = told_story(STORY[:many])
            days = days_around(told_story())
            self.assertEqual(told(book, days), told(fresh, days))

    def test_every_change_is_one_step(self):
        self.assertEqual(len(steps_of(told_story())[0]), len(STORY))

    def test_a_redating_to_the_same_day_and_a_like_cartel_are_steps(self):
        book = camp(Book())
        book.take(4, "ann", "blue")
        before = held_in(book)
        book.redate(1, 4)
        book.cartel("blue", "red", [1, 2, 4, 4, 8, 16], 6)
        self.assertEqual(held_in(book), before)
        book.undo()
        book.undo()
        self.assertEqual(held_in(book), before)
        book.undo()
        self.assertEqual(book.deeds(), [])

    def test_a_like_change_ends_what_could_be_done_again(self):
        for step in (("redate", 1, 4), ("cartel", "blue", "red", [1, 2, 4, 4, 8, 16], 6)):
            book = camp(Book())
            book.take(4, "ann", "blue")
            book.die(5, "ann")
            book.undo()
            self.assertEqual(do(book, step), "done")
            self.assertEqual(outcome(book.redo), "NoStep")

    def test_the_next_number_too(self):
        book = camp(Book())
        self.assertEqual(book.take(4, "ann", "blue"), 1)
        self.assertEqual(book.free(5, "ann"), 2)
        book.undo()
        self.assertEqual(book.upcoming(), 2)
        self.assertEqual(book.flee(6, "ann"), 2)
        self.assertEqual(book.deeds()[1], (2, 6, ("flee", "ann")))
        self.assertEqual(outcome(book.redo), "NoStep")

    def test_undone_and_done_again_in_turns(self):
        book = told_story()
        end = held_in(book)
        for turn in range(1, len(STORY) + 1):
            for each in range(turn):
                book.undo()
            for each in range(turn):
                book.redo()
            self.assertEqual(held_in(book), end)

    def test_many_steps(self):
        book = camp(Book())
        book.take(4, "ann", "blue")
        for turn in range(3000):
            book.redate(1, turn % 7)
        for turn in range(3001):
            book.undo()
        self.assertEqual(book.deeds(), [])
        for turn in range(3001):
            book.redo()
        self.assertEqual(book.deeds(), [(1, 2999 % 7, ("take", "ann", "blue"))])

    def test_no_step_in_a_new_book(self):
        book = Book()
        for kind in ("undo", "redo", "redo", "undo"):
            self.assertEqual(outcome(getattr(book, kind)), "NoStep")
            self.assertEqual(held_in(book), ([], [], [], [], 1))


class Between(Case):
    def test_every_question_and_what_is_refused_change_nothing(self):
        book = told_story()
        for turn in range(5):
            book.undo()
        before = whole(book)
        for question in QUESTIONS:
            outcome(getattr(book, question[0]), *question[1:])
        for step in REFUSED:
            self.assertNotIn(do(book, step), ("done", book.upcoming()))
        self.assertEqual(whole(book), before)
        for turn in range(5):
            self.assertIsNone(book.redo())
        self.assertWhole(book, told_story())

    def test_a_break_between_an_undo_and_a_redo(self):
        book = camp(Book())
        book.take(4, "ann", "blue")
        book.word(5, "ann")
        book.rank(9, "ann", 3)
        book.undo()
        self.assertEqual(outcome(book.strike, 1), "Breaks 2")
        self.assertEqual(outcome(book.redate, 1, 8), "Breaks 2")
        self.assertEqual(outcome(book.die, 4, "ann"), "Breaks 2")
        self.assertIsNone(book.redo())
        self.assertEqual(book.rank_of("ann", 9), 3)

    def test_each_new_change_ends_what_could_be_done_again(self):
        for step in (("side", "white"), ("man", "new", "red", 0), ("cartel", "red", "gray", [1] * 6, 0),
                     ("deed", 30, ("die", "ann")), ("strike", 10), ("redate", 10, 20)):
            book = told_story()
            for turn in range(4):
                book.undo()
            answer = do(book, step)
            self.assertTrue(answer == "done" or isinstance(answer, int), step)
            self.assertEqual(outcome(book.redo), "NoStep")
            book.undo()
            self.assertEqual(outcome(book.undo), "done")


class Twins(Case):
    def test_as_this_one_is(self):
        book = told_story()
        for turn in range(3):
            book.undo()
        other = book.twin()
        self.assertIsInstance(other, Book)
        self.assertIsNot(other, book)
        self.assertWhole(other, book)

    def test_each_goes_its_own_way(self):
        book = told_story()
        for turn in range(3):
            book.undo()
        kept = whole(book)
        other = book.twin()
        for turn in range(9):
            other.undo()
        other.side("pink")
        other.man("zed", "pink", 1)
        other.cartel("pink", "red", [2] * 6, 4)
        other.take(3, "zed", "red")
        self.assertEqual(whole(book), kept)
        kept = whole(other)
        book.redo()
        book.redo()
        book.side("amber")
        for turn in range(20):
            book.undo()
        self.assertEqual(whole(other), kept)

    def test_a_twin_has_what_can_be_undone_and_done_again(self):
        book = told_story()
        for turn in range(6):
            book.undo()
        other = book.twin()
        for turn in range(6):
            self.assertIsNone(other.redo())
        self.assertEqual(outcome(other.redo), "NoStep")
        self.assertWhole(other, told_story())
        for turn in range(len(STORY)):
            self.assertIsNone(other.undo())
        self.assertEqual(outcome(other.undo), "NoStep")

    def test_a_twin_of_a_twin_and_of_an_empty_book(self):
        self.assertWhole(Book().twin(), Book())
        self.assertWhole(told_story().twin().twin(), told_story())

    def test_two_books_side_by_side(self):
        one, other = Book(), Book()
        for step in STORY:
            do(one, step)
        self.assertEqual(held_in(other), ([], [], [], [], 1))
        self.assertEqual(outcome(other.undo), "NoStep")
        camp(other)
        self.assertWhole(one, told_story())
        self.assertEqual(other.deeds(), [])

    def test_twins_under_way_against_plain_books(self):
        for seed in range(12):
            source = random.Random(3000 + seed)
            books = [(camp(Book()), camp(PlainBook()))]
            for turn in range(80):
                book, plain = source.choice(books)
                step = random_step(source, plain, 8)
                self.assertEqual(do(book, step), do(plain, step))
                if turn % 20 == 10:
                    copied = PlainBook()
                    copied.put(plain.now)
                    copied.undoable, copied.redoable = list(plain.undoable), list(plain.redoable)
                    books.append((book.twin(), copied))
            for book, plain in books:
                self.assertEqual(told(book, days_around(plain)), told(plain, days_around(plain)))


if __name__ == "__main__":
    unittest.main()
