"""Points [7] to [10]: what each deed does, and how men, rolls and accounts stand behind it; told by hand."""

import unittest

from cartelship.book import Book
from helper import camp, do, outcome

FAR = 10 ** 6


class Case(unittest.TestCase):
    def setUp(self):
        self.book = camp(Book())

    def assertMan(self, name, day, way, holder="", words=()):
        with self.subTest(name=name, day=day):
            book = self.book
            self.assertEqual(book.stands(name, day), way)
            self.assertEqual(book.holder(name, day), holder)
            self.assertEqual(book.words(name, day), list(words))
            self.assertIs(book.may_serve(name, day), way == "free")

    def assertWhy(self, why, day, *deed):
        self.assertEqual(do(self.book, ("deed", day, deed)), why)


class Single(Case):
    def test_ahead_of_all_deeds_at_home(self):
        for name, side, rank in self.book.men():
            for day in (-FAR, 0, FAR):
                self.assertMan(name, day, "free")
                self.assertEqual(self.book.rank_of(name, day), rank)
                self.assertEqual(self.book.line(name, day), [])

    def test_take(self):
        self.assertEqual(self.book.take(5, "ann", "blue"), 1)
        self.assertMan("ann", 4, "free")
        self.assertMan("ann", 5, "held", "blue")
        self.assertMan("ann", FAR, "held", "blue")
        self.assertEqual(self.book.roll("red", "blue", 4), [])
        self.assertEqual(self.book.roll("red", "blue", 5), [("ann", 0, 5, False)])
        self.assertEqual(self.book.roll("blue", "red", 5), [])
        self.assertEqual(self.book.roll("red", "gray", 5), [])
        self.assertWhy("Held", 6, "take", "ann", "blue")
        self.assertWhy("Held", 6, "take", "ann", "gray")

    def test_own(self):
        self.assertWhy("Own", 6, "take", "ann", "red")
        self.book.take(5, "ann", "blue")
        self.assertWhy("Own", 6, "take", "ann", "red")
        self.book.die(7, "ann")
        self.assertWhy("Own", 8, "take", "ann", "red")
        self.assertWhy("Gone", 8, "take", "ann", "gray")

    def test_word(self):
        self.book.take(5, "ann", "blue")
        self.book.word(8, "ann")
        self.assertMan("ann", 7, "held", "blue")
        self.assertMan("ann", 8, "word", "", ["blue"])
        self.assertEqual(self.book.roll("red", "blue", 8), [("ann", 0, 5, True)])
        self.assertWhy("NotHeld", 9, "word", "ann")
        self.assertWhy("NotHeld", 9, "free", "ann")
        self.assertWhy("NotHeld", 9, "flee", "ann")

    def test_free_and_flee(self):
        for kind in ("free", "flee"):
            self.book = camp(Book())
            self.book.take(5, "ann", "blue")
            self.assertEqual(do(self.book, ("deed", 8, (kind, "ann"))), 2)
            self.assertMan("ann", 7, "held", "blue")
            self.assertMan("ann", 8, "free")
            self.assertEqual(self.book.roll("red", "blue", 8), [])
            self.assertEqual(self.book.deeds()[1], (2, 8, (kind, "ann")))
            self.assertWhy("NotHeld", 9, kind, "ann")

    def test_their_words_stay(self):
        for kind in ("free", "flee"):
            self.book = camp(Book())
            self.book.take(1, "ann", "blue")
            self.book.word(2, "ann")
            self.book.take(3, "ann", "gray")
            self.assertMan("ann", 3, "held", "gray", ["blue"])
            do(self.book, ("deed", 4, (kind, "ann")))
            self.assertMan("ann", 4, "word", "", ["blue"])
            self.assertEqual(self.book.roll("red", "gray", 4), [])
            self.assertEqual(self.book.roll("red", "blue", 4), [("ann", 0, 1, True)])

    def test_rank(self):
        self.book.rank(3, "ann", 5)
        self.book.rank(6, "ann", 5)
        self.book.rank(9, "ann", 0)
        self.assertEqual([self.book.rank_of("ann", day) for day in (2, 3, 8, 9, FAR)], [0, 5, 5, 0, 0])
        self.assertMan("ann", 9, "free")
        self.book.take(4, "ann", "blue")
        self.assertEqual(self.book.roll("red", "blue", 8), [("ann", 5, 4, False)])
        self.assertEqual(self.book.roll("red", "blue", 9), [("ann", 0, 4, False)])

    def test_die(self):
        self.book.take(1, "ann", "blue")
        self.book.word(2, "ann")
        self.book.take(3, "ann", "gray")
        self.book.rank(3, "ann", 4)
        self.book.die(4, "ann")
        self.assertMan("ann", 4, "gone")
        self.assertEqual(self.book.rank_of("ann", FAR), 4)
        self.assertEqual((self.book.roll("red", "blue", 4), self.book.roll("red", "gray", 4)), ([], []))
        self.assertEqual(len(self.book.roll("red", "blue", 3)) + len(self.book.roll("red", "gray", 3)), 2)
        for deed in (("take", "ann", "blue"), ("word", "ann"), ("free", "ann"), ("flee", "ann"), ("rank", "ann", 1),
                     ("die", "ann")):
            self.assertWhy("Gone", 5, *deed)

    def test_dying_at_home_and_on_his_word(self):
        self.book.die(4, "ann")
        self.assertMan("ann", 4, "gone")
        self.book.take(1, "bob", "blue")
        self.book.word(2, "bob")
        self.book.die(4, "bob")
        self.assertMan("bob", 3, "word", "", ["blue"])
        self.assertMan("bob", 4, "gone")


class Words(Case):
    def test_taken_again_by_the_side_of_his_word_ends_this_word_alone(self):
        self.book.take(1, "ann", "blue")
        self.book.word(2, "ann")
        self.book.take(3, "ann", "gray")
        self.book.word(4, "ann")
        self.assertMan("ann", 4, "word", "", ["blue", "gray"])
        self.book.take(5, "ann", "blue")
        self.assertMan("ann", 5, "held", "blue", ["gray"])
        self.assertEqual(self.book.roll("red", "blue", 4), [("ann", 0, 1, True)])
        self.assertEqual(self.book.roll("red", "blue", 5), [("ann", 0, 5, False)])
        self.assertEqual(self.book.roll("red", "gray", 5), [("ann", 0, 3, True)])
        self.book.free(6, "ann")
        self.assertMan("ann", 6, "word", "", ["gray"])

    def test_words_are_told_in_order_of_sides(self):
        for day, side in enumerate(("white", "amber", "pink"), start=1):
            self.book.side(side)
            self.book.take(day, "ann", side)
            self.book.word(day, "ann")
        self.assertMan("ann", 9, "word", "", ["amber", "pink", "white"])

    def test_since_is_the_last_taking(self):
        self.book.take(1, "ann", "blue")
        self.book.free(2, "ann")
        self.book.take(7, "ann", "blue")
        self.book.word(9, "ann")
        self.assertEqual(self.book.roll("red", "blue", 1), [("ann", 0, 1, False)])
        self.assertEqual(self.book.roll("red", "blue", 9), [("ann", 0, 7, True)])


class Swaps(Case):
    def setUp(self):
        Case.setUp(self)
        for name in ("ann", "bob", "cid"):
            self.book.take(1, name, "blue")
        for name in ("dan", "eve", "fay"):
            self.book.take(1, name, "red")

    def test_who_is_held_goes_home_and_whose_word_is_given_has_it_back(self):
        self.book.word(2, "bob")
        self.book.word(2, "eve")
        self.assertEqual(self.book.swap(3, "red", "blue", ["ann", "bob"], ["eve", "dan"]), 9)
        for name in ("ann", "bob", "dan", "eve"):
            self.assertMan(name, 3, "free")
        self.assertMan("bob", 2, "word", "", ["blue"])
        self.assertMan("cid", 3, "held", "blue")
        self.assertMan("fay", 3, "held", "red")
        self.assertEqual(self.book.deeds()[-1], (9, 3, ("swap", "red", "blue", ("ann", "bob"), ("eve", "dan"))))

    def test_other_words_and_other_holders_stay(self):
        self.book.word(2, "ann")
        self.book.take(3, "ann", "gray")
        self.book.word(3, "bob")
        self.book.take(4, "bob", "gray")
        self.book.word(4, "bob")
        self.book.take(5, "bob", "blue")
        self.book.swap(6, "blue", "red", [], ["ann", "bob"])
        self.assertMan("ann", 5, "held", "gray", ["blue"])
        self.assertMan("ann", 6, "held", "gray")
        self.assertMan("bob", 5, "held", "blue", ["gray"])
        self.assertMan("bob", 6, "word", "", ["gray"])

    def test_off_roll(self):
        self.book.take(1, "gus", "blue")
        self.book.take(1, "blue", "red")
        self.book.free(2, "bob")
        self.book.die(2, "cid")
        for ones, others in (
                (["gus"], []),              # a man of another side, held across
                ([], ["blue"]),             # a man of another side who is called like the side
                (["bob"], []),              # at home again
                (["cid"], []),              # dead
                (["dan"], []), ([], ["ann"]),   # in the list across
                (["ann", "bob"], ["dan"]), (["ann"], ["dan", "gus"])):
            with self.subTest(ones=ones, others=others):
                self.assertEqual(outcome(self.book.swap, 3, "red", "blue", ones, others), "OffRoll")
                self.assertEqual(outcome(self.book.swap, 3, "blue", "red", others, ones), "OffRoll")
        self.assertEqual(self.book.swap(3, "red", "blue", ["ann"], ["dan"]), 11)
        self.assertEqual(outcome(self.book.swap, 3, "red", "blue", ["ann"], []), "OffRoll")

    def test_just_then(self):
        self.book.free(5, "ann")
        self.assertEqual(self.book.swap(4, "red", "blue", ["bob"], []), 8)
        self.assertEqual(outcome(self.book.swap, 5, "red", "blue", ["ann"], []), "OffRoll")
        self.assertEqual(outcome(self.book.swap, 0, "red", "blue", ["ann"], []), "OffRoll")
        self.assertEqual(outcome(self.book.swap, 4, "red", "blue", ["ann"], []), "Breaks 7")

    def test_the_account_both_ways(self):
        self.book.swap(3, "red", "blue", ["cid"], ["dan"])
        self.assertEqual([self.book.account("red", "blue", day) for day in (2, 3, FAR)], [0, 3, 3])
        self.assertEqual([self.book.account("blue", "red", day) for day in (2, 3, FAR)], [0, -3, -3])
        self.book.swap(5, "blue", "red", ["fay", "eve"], ["bob"])
        self.assertEqual([self.book.account("red", "blue", day) for day in (4, 5)], [3, -1])
        self.assertEqual([self.book.account("blue", "red", day) for day in (4, 5)], [-3, 1])
        self.assertEqual(self.book.account("blue", "gray", FAR), 0)
        self.assertEqual(self.book.account("red", "gray", FAR), 0)

    def test_the_limit_on_both_sides_of_nought(self):
        for limit, ones, others, answer in (
                (7, ["ann", "bob", "cid"], [], 7), (6, ["ann", "bob", "cid"], [], "Uneven"),
                (7, [], ["dan", "eve", "fay"], 7), (6, [], ["dan", "eve", "fay"], "Uneven"),
                (0, ["cid"], ["fay"], 7), (0, ["cid"], ["eve"], "Uneven"), (0, ["bob"], ["fay"], "Uneven"),
                (2, ["cid"], ["eve"], 7), (2, ["bob"], ["fay"], 7), (1, ["cid"], ["eve"], "Uneven")):
            with self.subTest(limit=limit, ones=ones, others=others):
                self.book.cartel("blue", "red", [1, 2, 4, 4, 8, 16], limit)
                self.assertEqual(outcome(self.book.twin().swap, 3, "red", "blue", ones, others), answer)
                self.assertEqual(outcome(self.book.twin().swap, 3, "blue", "red", others, ones), answer)

    def test_the_account_adds_up_towards_the_limit(self):
        self.book.swap(3, "red", "blue", ["cid", "bob"], [])
        self.assertEqual(outcome(self.book.swap, 4, "red", "blue", ["ann"], []), "Uneven")
        self.book.swap(4, "red", "blue", [], ["dan"])
        self.assertEqual(self.book.swap(5, "red", "blue", ["ann"], []), 9)
        self.assertEqual(self.book.account("red", "blue", 5), 6)

    def test_by_the_ranks_that_they_had_then(self):
        self.book.rank(2, "ann", 2)
        self.book.swap(3, "red", "blue", ["ann"], [])
        self.book.rank(4, "ann", 5)
        self.assertEqual(self.book.account("red", "blue", FAR), 4)
        self.book.rank(1, "ann", 1)
        self.assertEqual(self.book.account("red", "blue", FAR), 4)
        self.book.strike(7)
        self.assertEqual(self.book.account("red", "blue", FAR), 2)

    def test_by_the_cartel_as_it_stands_now(self):
        self.book.swap(3, "red", "blue", ["cid", "ann"], ["eve"])
        self.assertEqual(self.book.account("red", "blue", 3), 3)
        self.book.cartel("red", "blue", [2, 4, 4, 8, 8, 8], 6)
        self.assertEqual(self.book.account("red", "blue", 3), 6)
        self.assertEqual(self.book.account("blue", "red", 3), -6)
        self.book.cartel("red", "gray", [5, 5, 5, 5, 5, 5], 0)
        self.assertEqual(self.book.account("red", "blue", 3), 6)
        self.assertEqual(self.book.account("red", "gray", 3), 0)

    def test_accounts_of_two_pairs_are_apart(self):
        self.book.take(2, "gus", "blue")
        self.book.swap(3, "gray", "blue", ["gus"], [])
        self.book.swap(3, "red", "blue", ["ann"], [])
        self.assertEqual(self.book.account("gray", "blue", 3), 12)
        self.assertEqual(self.book.account("red", "blue", 3), 1)
        self.assertEqual(self.book.account("blue", "gray", 3), -12)

    def test_a_man_can_go_by_two_exchanges(self):
        self.book.swap(3, "red", "blue", ["ann"], ["dan"])
        self.book.take(4, "ann", "blue")
        self.book.swap(4, "red", "blue", ["ann"], [])
        self.assertEqual(self.book.account("red", "blue", 4), 1)
        self.assertEqual(self.book.line("ann", 4), [1, 7, 8, 9])


class Rolls(Case):
    def test_from_the_highest_rank_down_then_since_then_name(self):
        for name, rank in (("zoe", 3), ("abe", 3), ("kit", 3), ("max", 5)):
            self.book.man(name, "red", rank)
        for name, day in (("ann", 1), ("bob", 2), ("zoe", 3), ("kit", 4), ("abe", 4), ("cid", 4), ("max", 9)):
            self.book.take(day, name, "blue")
        self.book.word(9, "kit")
        self.assertEqual(self.book.roll("red", "blue", 9), [
            ("max", 5, 9, False), ("zoe", 3, 3, False), ("abe", 3, 4, False), ("cid", 3, 4, False), ("kit", 3, 4, True),
            ("bob", 1, 2, False), ("ann", 0, 1, False)])
        self.book.rank(9, "ann", 5)
        self.assertEqual([entry[0] for entry in self.book.roll("red", "blue", 9)],
                         ["ann", "max", "zoe", "abe", "cid", "kit", "bob"])

    def test_only_the_men_of_the_first_at_the_second(self):
        self.book.take(1, "ann", "blue")
        self.book.take(1, "gus", "blue")
        self.book.take(1, "dan", "red")
        self.assertEqual(self.book.roll("red", "blue", 1), [("ann", 0, 1, False)])
        self.assertEqual(self.book.roll("gray", "blue", 1), [("gus", 5, 1, False)])
        self.assertEqual(self.book.roll("blue", "red", 1), [("dan", 0, 1, False)])
        self.assertEqual(self.book.roll("gray", "red", 1), [])

    def test_kinds(self):
        self.book.take(1, "ann", "blue")
        self.book.word(2, "ann")
        roll = self.book.roll("red", "blue", 2)
        self.assertIs(type(roll), list)
        self.assertIs(type(roll[0]), tuple)
        self.assertIs(roll[0][3], True)
        self.assertIs(self.book.roll("red", "blue", 1)[0][3], False)
        self.assertIs(type(roll[0][1]), int)


if __name__ == "__main__":
    unittest.main()
