"""Points [6], [11] and [13]: sides, men, cartels and deeds are told to the book, or refused in the order told."""

import itertools
import unittest

from cartelship.book import Book
from helper import BookCase, camp, do, held_in, steps_of, whole

BAD_NAMES = ("", "A", "a1", "a b", "abcdefghi", "-", "\u00e4", "a\n", " a", "ab_")
GOOD_NAMES = ("a", "z", "abcdefgh", "zzzzzzzz", "take", "on", "next")
WORTHS = [1, 2, 4, 8, 16, 32]
BAD_WORTHS = (
    [], [1], [1] * 5, [1] * 7, [1, 2, 4, 8, 16, 33], [0, 2, 4, 8, 16, 32], [0] * 6, [-1] * 6, [1, 2, 4, 8, 16, 10016],
    [2, 1, 4, 8, 16, 32], [1, 2, 4, 8, 16, 0], [10 ** 30] * 6, [1, 3, 2, 6, 6, 6],
)


def held_camp():
    """The camp behind some takings of day 1, with one man of each way."""
    book = camp(Book())
    book.take(1, "ann", "blue")
    book.take(1, "cid", "blue")
    book.take(1, "dan", "red")
    book.die(1, "fay")
    book.take(1, "gus", "red")
    book.word(1, "gus")
    return book


def with_120_deeds(book):
    while len(book.deeds()) < 120:
        book.rank(book.upcoming() % 3, "eve", book.upcoming() % 6)
    return book


def crowd():
    """Six sides and forty men, four of them named."""
    book = Book()
    for side in ("red", "blue", "gray", "x", "y", "z"):
        book.side(side)
    for name in ("ann", "bob", "cid", "dan"):
        book.man(name, "red", 0)
    for first, second in itertools.islice(itertools.product("abcdefghij", repeat=2), 36):
        book.man(first + second, "y", 5)
    return book


def first_due(order, faults):
    return ([why for why in order if why in faults] + ["done"])[0]


class Case(BookCase):
    def assertEach(self, book, order, steps):
        """Each step of a list of (step, faults) is refused for the first fault in order, or let."""
        before = (held_in(book), steps_of(book))
        for step, faults in steps:
            with self.subTest(step=step, faults=faults):
                why = first_due(order, faults)
                other = book.twin()
                answer = do(other, step)
                if why == "done":
                    self.assertIn(answer, ("done", book.upcoming()))
                    self.assertNotEqual(held_in(other), before[0])
                    self.assertEqual(len(steps_of(other)[0]), len(before[1][0]) + 1)
                else:
                    self.assertEqual(answer, why)
                    self.assertEqual((held_in(other), steps_of(other)), before)
        self.assertEqual((held_in(book), steps_of(book)), before)


def products(*places):
    """Every choice of one (handed in, fault) of each place, as (all that is handed in, all faults)."""
    for choice in itertools.product(*places):
        yield [handed for handed, fault in choice], [fault for handed, fault in choice if fault]


class Empty(Case):
    def test_a_new_book(self):
        self.assertEqual(held_in(Book()), ([], [], [], [], 1))

    def test_nothing_there(self):
        self.assertRefused(Book(), "NoSide", ("man", "ann", "red", 0))
        self.assertRefused(Book(), "NoSide", ("cartel", "red", "blue", WORTHS, 0))
        self.assertRefused(Book(), "NoMan", ("deed", 0, ("die", "ann")))
        self.assertRefused(Book(), "NoSide", ("deed", 0, ("swap", "red", "blue", (), ())))
        for number in (-1, 0, 1, 2):
            self.assertRefused(Book(), "NoDeed", ("strike", number))
            self.assertRefused(Book(), "NoDeed", ("redate", number, 0))


class Sides(Case):
    def test_told_in_order(self):
        book = Book()
        for name in ("m", "z", "ab", "a", "b"):
            self.assertIsNone(book.side(name))
        self.assertEqual(book.sides(), ["a", "ab", "b", "m", "z"])

    def test_names(self):
        for name in GOOD_NAMES:
            book = Book()
            book.side(name)
            self.assertEqual(book.sides(), [name])
            book.man(name, name, 0)
            self.assertEqual(book.men(), [(name, name, 0)])
        for name in BAD_NAMES:
            self.assertRefused(Book(), "BadName", ("side", name))
            self.assertRefused(camp(Book()), "BadName", ("man", name, "red", 0))

    def test_refusals_in_order(self):
        order = ("BadName", "Taken", "Full")
        names = [("new", ""), ("red", "Taken"), *[(name, "BadName") for name in BAD_NAMES]]
        for book, full in ((camp(Book()), ""), (crowd(), "Full")):
            self.assertEach(book, order, [(("side", *handed), faults + [full]) for handed, faults in products(names)])

    def test_a_man_s_name_is_free_for_a_side(self):
        book = camp(Book())
        self.assertEqual(do(book, ("side", "ann")), "done")
        self.assertEqual(book.sides(), ["ann", "blue", "gray", "red"])

    def test_six_and_no_more(self):
        book = Book()
        for name in "fedcba":
            self.assertEqual(do(book, ("side", name)), "done")
        self.assertRefused(book, "Full", ("side", "g"))
        self.assertEqual(book.sides(), list("abcdef"))
        book.undo()
        self.assertEqual(do(book, ("side", "g")), "done")


class Men(Case):
    def test_told_in_order(self):
        book = Book()
        book.side("red")
        book.side("ann")
        for name, side, rank in (("z", "red", 0), ("ann", "ann", 5), ("b", "ann", 2), ("az", "red", 3)):
            self.assertIsNone(book.man(name, side, rank))
        self.assertEqual(book.men(), [("ann", "ann", 5), ("az", "red", 3), ("b", "ann", 2), ("z", "red", 0)])

    def test_refusals_in_order(self):
        order = ("BadName", "Taken", "NoSide", "BadRank", "Full")
        names = (("new", ""), ("ann", "Taken"), ("", "BadName"), ("Ann", "BadName"))
        sides = (("red", ""), ("nowhere", "NoSide"), ("ann", "NoSide"), ("", "NoSide"))
        ranks = ((0, ""), (5, ""), (-1, "BadRank"), (6, "BadRank"), (10 ** 30, "BadRank"), (-10 ** 30, "BadRank"))
        for book, full in ((camp(Book()), ""), (crowd(), "Full")):
            self.assertEach(book, order, [(("man", *handed), faults + [full])
                                          for handed, faults in products(names, sides, ranks)])

    def test_forty_and_no_more(self):
        book = crowd()
        self.assertEqual(len(book.men()), 40)
        self.assertEqual(do(book, ("man", "more", "x", 1)), "Full")
        book.undo()
        self.assertEqual(do(book, ("man", "more", "x", 1)), "done")
        self.assertEqual(len(book.men()), 40)

    def test_the_rank_told_is_the_one_he_came_with(self):
        book = camp(Book())
        book.rank(3, "ann", 5)
        self.assertIn(("ann", "red", 0), book.men())


class Cartels(Case):
    def test_one_for_both_whichever_is_named_first(self):
        book = camp(Book())
        self.assertEqual(book.cartels(), [("blue", "gray", (1, 1, 3, 6, 6, 12), 20), ("blue", "red", (1, 2, 4, 4, 8, 16), 6)])
        for one, other in (("blue", "red"), ("red", "blue")):
            for limit in (0, 10 ** 6):
                self.assertIsNone(book.cartel(one, other, WORTHS, limit))
                self.assertEqual(book.cartels()[1:], [("blue", "red", tuple(WORTHS), limit)])
        self.assertIsNone(book.cartel("red", "gray", [10000] * 6, 3))
        self.assertEqual([each[:2] for each in book.cartels()], [("blue", "gray"), ("blue", "red"), ("gray", "red")])

    def test_refusals_in_order(self):
        order = ("NoSide", "Own", "BadTariff", "BadLimit", "Breaks 8")
        book = camp(Book())
        for man, side in (("ann", "blue"), ("cid", "blue"), ("dan", "red"), ("fay", "red")):
            book.take(1, man, side)
        book.rank(1, "ann", 0)
        book.rank(1, "ann", 0)
        book.swap(2, "red", "blue", ["ann"], ["dan"])
        book.swap(2, "blue", "red", [], ["cid"])
        self.assertEqual(book.upcoming(), 9)
        pairs = ((("red", "blue"), ""), (("blue", "red"), ""), (("red", "nowhere"), "NoSide"), (("", "blue"), "NoSide"),
                 (("ann", "cid"), "NoSide"), (("nowhere", "nowhere"), "NoSide"), (("red", "red"), "Own"))
        tariffs = (([1] * 6, ""), ([1, 2, 4, 5, 8, 16], "BadTariff"), *[(worths, "BadTariff") for worths in BAD_WORTHS])
        limits = ((4, ""), (10 ** 6, ""), (0, "Breaks 8"), (-1, "BadLimit"), (10 ** 6 + 1, "BadLimit"), (-4, "BadLimit"))
        self.assertEach(book, order, [(("cartel", *handed[0], *handed[1:]), faults)
                                      for handed, faults in products(pairs, tariffs, limits)])

    def test_wrong_tariffs_by_themselves(self):
        for worths in BAD_WORTHS:
            self.assertRefused(camp(Book()), "BadTariff", ("cartel", "red", "gray", worths, 5))

    def test_bounds_of_limits(self):
        for limit in (-10 ** 30, -1, 10 ** 6 + 1, 10 ** 30):
            self.assertRefused(camp(Book()), "BadLimit", ("cartel", "red", "blue", WORTHS, limit))


class Deeds(Case):
    DAYS = ((1, ""), (10 ** 6, ""), (-1, "BadDay"), (10 ** 6 + 1, "BadDay"), (-10 ** 30, "BadDay"))

    def assertDeeds(self, order, deeds):
        """Deeds as (deed, faults), on good and bad days, in a book with room and in a full one."""
        for full in ("", "Full"):
            book = with_120_deeds(held_camp()) if full else held_camp()
            self.assertEach(book, ("BadDay", *order), [
                (("deed", day, deed), [late, *faults, full]) for (day, late), (deed, faults)
                in itertools.product(self.DAYS, deeds)])

    def test_take(self):
        men = (("bob", ""), ("ann", "Held"), ("fay", "Gone"), ("gus", ""), ("nobody", "NoMan"), ("red", "NoMan"))
        sides = (("blue", ""), ("gray", ""), ("red", ""), ("nowhere", "NoSide"), ("", "NoSide"))
        homes = {"bob": "red", "ann": "red", "fay": "blue", "gus": "gray"}
        deeds = [(("take", *handed), faults + (["Own"] if homes.get(handed[0]) == handed[1] else []))
                 for handed, faults in products(men, sides)]
        self.assertDeeds(("NoMan", "NoSide", "Full", "Own", "Gone", "Held"), deeds)

    def test_word_free_flee(self):
        men = (("ann", ""), ("bob", "NotHeld"), ("gus", "NotHeld"), ("fay", "Gone"), ("nobody", "NoMan"), ("", "NoMan"))
        for kind in ("word", "free", "flee"):
            deeds = [((kind, *handed), faults + ["NotHeld"] * (handed == ["fay"])) for handed, faults in products(men)]
            self.assertDeeds(("NoMan", "Full", "Gone", "NotHeld"), deeds)

    def test_rank(self):
        men = (("ann", ""), ("bob", ""), ("gus", ""), ("fay", "Gone"), ("nobody", "NoMan"))
        ranks = ((0, ""), (5, ""), (-1, "BadRank"), (6, "BadRank"), (10 ** 30, "BadRank"))
        deeds = [(("rank", *handed), faults) for handed, faults in products(men, ranks)]
        self.assertDeeds(("NoMan", "BadRank", "Full", "Gone"), deeds)

    def test_die(self):
        men = (("ann", ""), ("bob", ""), ("gus", ""), ("fay", "Gone"), ("nobody", "NoMan"))
        self.assertDeeds(("NoMan", "Full", "Gone"), [(("die", *handed), faults) for handed, faults in products(men)])

    def test_swap(self):
        ones = (("red", ""), ("nowhere", "NoSide"), ("ann", "NoSide"))
        others = (("blue", ""), ("gray", "NoCartel"), ("nowhere", "NoSide"), ("red", "Own"))
        lists = (
            ((("ann",), ("dan",)), []), ((("cid",), ()), []), (((), ("dan",)), []), ((("cid", "ann"), ("dan",)), []),
            (((), ()), ["NoMen"]), ((("ann", "nobody"), ()), ["NoMan"]), (((), ("",)), ["NoMan"]),
            ((("red",), ()), ["NoMan"]), ((("ann",), ("dan", "dan")), ["Twice"]), ((("ann",), ("ann",)), ["Twice"]),
            ((("ann", "dan", "ann"), ("nobody",)), ["NoMan", "Twice"]), ((("nobody", "nobody"), ()), ["NoMan"]),
            ((("bob", "bob"), ()), ["Twice", "OffRoll"]), ((("bob",), ()), ["OffRoll"]), ((("dan",), ()), ["OffRoll"]),
            (((), ("ann",)), ["OffRoll"]), ((("ann",), ("fay",)), ["OffRoll"]), (((), ("gus",)), ["OffRoll"]),
        )
        deeds = [(("swap", one, other, *names), [why, not_why, *faults])
                 for (one, why), (other, not_why), (names, faults) in itertools.product(ones, others, lists)]
        self.assertDeeds(
            ("NoSide", "Own", "NoCartel", "NoMen", "NoMan", "Twice", "Full", "OffRoll", "Uneven"), deeds)

    def test_uneven(self):
        for kind in ("full", "room"):
            book = held_camp()
            book.rank(1, "cid", 5)
            if kind == "full":
                with_120_deeds(book)
            steps = (("deed", 1, ("swap", "red", "blue", ("cid",), ())), ("deed", 1, ("swap", "blue", "red", (), ("cid",))),
                     ("deed", 1, ("swap", "red", "blue", ("cid", "ann"), ("dan",))))
            for step in steps:
                self.assertRefused(book, "Full" if kind == "full" else "Uneven", step)
            step = ("deed", 1, ("swap", "red", "blue", ("bob", "cid"), ()))
            self.assertRefused(book, "Full" if kind == "full" else "OffRoll", step)

    def test_days_from_nought_to_a_million(self):
        book = camp(Book())
        self.assertEqual(book.take(0, "ann", "blue"), 1)
        self.assertEqual(book.free(10 ** 6, "ann"), 2)
        self.assertEqual(book.deeds(), [(1, 0, ("take", "ann", "blue")), (2, 10 ** 6, ("free", "ann"))])

    def test_each_kind_by_itself_leaves_all_as_it_was(self):
        book = held_camp()
        book.undo()
        for why, deed in (
                ("Own", ("take", "bob", "red")), ("Gone", ("take", "fay", "red")), ("Held", ("take", "ann", "gray")),
                ("NotHeld", ("word", "bob")), ("Gone", ("free", "fay")), ("NotHeld", ("flee", "bob")),
                ("BadRank", ("rank", "ann", 6)), ("Gone", ("die", "fay")), ("NoMen", ("swap", "red", "blue", (), ())),
                ("OffRoll", ("swap", "red", "blue", ("bob",), ())), ("NoCartel", ("swap", "red", "gray", (), ())),
                ("Twice", ("swap", "red", "blue", ("ann", "ann"), ())), ("NoMan", ("die", "nobody"))):
            self.assertRefused(book, why, ("deed", 2, deed))
            self.assertRefused(book, "BadDay", ("deed", -1, deed))

    def test_a_hundred_and_twenty_and_no_more(self):
        book = with_120_deeds(held_camp())
        self.assertEqual((len(book.deeds()), book.upcoming()), (120, 121))
        self.assertEqual(do(book, ("deed", 5, ("die", "ann"))), "Full")
        self.assertEqual(book.upcoming(), 121)
        book.strike(60)
        self.assertEqual(book.die(5, "ann"), 121)
        self.assertEqual(do(book, ("deed", 5, ("die", "bob"))), "Full")
        self.assertEqual((len(book.deeds()), book.upcoming()), (120, 122))

    def test_a_full_book_can_still_be_struck_redated_and_asked(self):
        book = with_120_deeds(held_camp())
        self.assertEqual(do(book, ("redate", 100, 7)), "done")
        self.assertEqual(book.deeds()[-1][0], 100)
        self.assertEqual(do(book, ("cartel", "red", "gray", WORTHS, 5)), "done")
        self.assertEqual(do(book, ("man", "more", "red", 0)), "done")
        self.assertEqual(do(book, ("strike", 100)), "done")


class WhatIsHandedIn(Case):
    def test_lists_stay_and_are_not_kept(self):
        book = held_camp()
        worths, ones, others = [1, 2, 4, 4, 8, 16], ["ann"], ["dan"]
        book.cartel("red", "blue", worths, 9)
        book.swap(2, "red", "blue", ones, others)
        self.assertEqual((worths, ones, others), ([1, 2, 4, 4, 8, 16], ["ann"], ["dan"]))
        before = whole(book)
        worths[0] = 99
        ones.append("cid")
        others.clear()
        self.assertEqual(whole(book), before)

    def test_a_refused_call_leaves_them_too(self):
        book = held_camp()
        worths, ones, others = [1, 2, 3], ["ann", "ann"], ["dan"]
        self.assertEqual(do(book, ("cartel", "red", "blue", worths, 9)), "BadTariff")
        with self.assertRaises(ValueError):
            book.swap(2, "red", "blue", ones, others)
        self.assertEqual((worths, ones, others), ([1, 2, 3], ["ann", "ann"], ["dan"]))

    def test_arguments_by_their_names(self):
        book = Book()
        book.side(name="red")
        book.side(name="blue")
        book.man(name="ann", side="red", rank=2)
        book.cartel(one="red", other="blue", worths=WORTHS, limit=99)
        self.assertEqual(book.take(day=1, man="ann", side="blue"), 1)
        self.assertEqual(book.rank(day=1, man="ann", rank=3), 2)
        self.assertEqual(book.swap(day=2, one="red", other="blue", ones=["ann"], others=[]), 3)
        self.assertEqual(book.take(day=3, man="ann", side="blue"), 4)
        self.assertEqual(book.word(day=3, man="ann"), 5)
        self.assertEqual(book.take(day=3, man="ann", side="blue"), 6)
        self.assertEqual(book.free(day=3, man="ann"), 7)
        self.assertEqual(book.take(day=4, man="ann", side="blue"), 8)
        self.assertEqual(book.flee(day=4, man="ann"), 9)
        self.assertEqual(book.die(day=5, man="ann"), 10)
        self.assertIsNone(book.redate(number=10, day=6))
        self.assertIsNone(book.strike(number=10))
        self.assertEqual(book.stands(man="ann", day=5), "free")
        self.assertEqual(book.account(one="red", other="blue", day=5), 8)


if __name__ == "__main__":
    unittest.main()
