"""Points [2] and [8], as far as cartelship/rolls.py keeps them."""

import itertools
import random
import unittest

from cartelship.rolls import lesser_lower, lesser_weight, names_of_part, rank_counts, roll_in_order
from helper import random_cases, weigh

ENTRIES = [
    ("ab", 5, 3, False), ("a", 5, 7, True), ("b", 5, 7, False), ("z", 2, 0, True), ("c", 2, 9, False),
    ("d", 2, 10, False), ("aa", 0, 1, False), ("ba", 0, 1, True),
]


class TwoRolls(unittest.TestCase):
    def test_told_by_hand(self):
        self.assertEqual(lesser_weight([1, 5], [3, 1], [0, 2]), 8)
        self.assertEqual(lesser_weight([1, 5], [0, 2], [3, 1]), 8)
        self.assertEqual(lesser_lower([1, 5, 10], [3, 1, 0], [1, 4, 9]), [0, 1, 8])
        self.assertEqual(lesser_lower([1, 5, 10], [1, 4, 9], [3, 1, 0]), [0, 1, 8])

    def test_each_rank_by_itself(self):
        for worths, one, other in random_cases(51, 100):
            before = (list(worths), list(one), list(other))
            self.assertEqual(lesser_weight(worths, one, other), min(weigh(worths, one), weigh(worths, other)))
            below = [min(weigh(worths[:rank], one[:rank]), weigh(worths[:rank], other[:rank]))
                     for rank in range(len(worths))]
            self.assertEqual(lesser_lower(worths, one, other), below)
            self.assertEqual((worths, one, other), before)


class Order(unittest.TestCase):
    def test_from_the_highest_rank_down_then_since_then_name(self):
        source = random.Random(52)
        for turn in range(50):
            mixed = list(ENTRIES)
            source.shuffle(mixed)
            before = list(mixed)
            told = roll_in_order(mixed)
            self.assertEqual(told, ENTRIES)
            self.assertIs(type(told), list)
            self.assertEqual(mixed, before)
            told.clear()
            self.assertEqual(mixed, before)

    def test_a_word_does_not_count(self):
        for one, other in itertools.product((True, False), repeat=2):
            entries = [("b", 1, 4, one), ("a", 1, 4, other)]
            self.assertEqual(roll_in_order(entries), [("a", 1, 4, other), ("b", 1, 4, one)])

    def test_days_are_numbers(self):
        entries = [("a", 0, 10, True), ("b", 0, 9, True), ("c", 0, 1000000, True), ("d", 0, 0, True)]
        self.assertEqual([entry[0] for entry in roll_in_order(entries)], ["d", "b", "a", "c"])

    def test_nobody(self):
        self.assertEqual(roll_in_order([]), [])


class Counts(unittest.TestCase):
    def test_how_many_of_each_rank(self):
        before = list(ENTRIES)
        self.assertEqual(rank_counts(ENTRIES, 6), [2, 0, 3, 0, 0, 3])
        self.assertEqual(rank_counts([], 6), [0] * 6)
        self.assertEqual(rank_counts([("a", 0, 0, True)], 1), [1])
        self.assertEqual(ENTRIES, before)

    def test_the_told_list_is_a_new_one(self):
        rank_counts([], 6)[0] = 9
        self.assertEqual(rank_counts([], 6), [0] * 6)


class Names(unittest.TestCase):
    def assertNames(self, part, names):
        before = (list(ENTRIES), list(part))
        told = names_of_part(ENTRIES, part)
        self.assertEqual(told, names)
        self.assertIs(type(told), list)
        self.assertEqual((ENTRIES, part), before)

    def test_of_each_rank_the_first_in_the_rolls_order(self):
        self.assertNames([0, 0, 0, 0, 0, 0], [])
        self.assertNames([0, 0, 0, 0, 0, 1], ["ab"])
        self.assertNames([0, 0, 0, 0, 0, 2], ["ab", "a"])
        self.assertNames([1, 0, 2, 0, 0, 0], ["z", "c", "aa"])
        self.assertNames([2, 0, 1, 0, 0, 2], ["ab", "a", "z", "aa", "ba"])
        self.assertNames([2, 0, 3, 0, 0, 3], [entry[0] for entry in ENTRIES])

    def test_every_part(self):
        ranks = {rank: [name for name, each, since, word in ENTRIES if each == rank] for rank in range(6)}
        for few, some, most in itertools.product(range(3), range(4), range(4)):
            self.assertNames([few, 0, some, 0, 0, most], ranks[5][:most] + ranks[2][:some] + ranks[0][:few])


if __name__ == "__main__":
    unittest.main()
