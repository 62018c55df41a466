"""Points [1] and [2], and the interface of cartelship/tariffs.py."""

import itertools
import random
import unittest

from cartelship.tariffs import good_tariff, lower, weight

GOOD = (
    [1], [2], [9999], [10000],
    [1, 1], [1, 2], [3, 3], [3, 9], [5000, 10000], [10000, 10000], [1, 10000],
    [1, 2, 4], [7, 7, 21],
    [1, 3, 3, 12], [2, 4, 8, 9984],
    [1, 2, 6, 24, 120], [5, 5, 5, 5, 5],
    [1, 1, 1, 1, 1, 1], [1, 2, 4, 8, 16, 32], [10000] * 6, [1, 4, 4, 20, 60, 10000 // 60 * 60],
)


def rolls(ranks, many, seed):
    source = random.Random(seed)
    return [[source.randint(0, 60) for rank in range(ranks)] for turn in range(many)]


class GoodTariff(unittest.TestCase):
    def assertTariff(self, worths, answer):
        with self.subTest(worths=worths):
            before = list(worths)
            self.assertIs(good_tariff(worths), answer)
            self.assertIs(good_tariff(worths), answer)
            self.assertEqual(worths, before)

    def test_tariffs_of_one_to_six_worths(self):
        for worths in GOOD:
            self.assertTariff(worths, True)

    def test_how_many_worths(self):
        for many in range(12):
            self.assertTariff([1] * many, 1 <= many <= 6)
            self.assertTariff([2 ** rank for rank in range(many)], 1 <= many <= 6)

    def test_bounds_of_one_worth(self):
        for worth in (-10 ** 30, -10000, -2, -1, 0, 10001, 20000, 10 ** 30):
            self.assertTariff([worth], False)
        for worth in (1, 2, 9999, 10000):
            self.assertTariff([worth], True)

    def test_bounds_hold_for_every_rank(self):
        for worths in GOOD:
            for rank in range(len(worths)):
                for wrong in (0, -1, -worths[rank], 10001, worths[rank] * 10001, 10 ** 40):
                    self.assertTariff(worths[:rank] + [wrong] + worths[rank + 1:], False)

    def test_just_beyond_the_greatest_worth(self):
        self.assertTariff([1, 10000], True)
        self.assertTariff([1, 10001], False)
        self.assertTariff([5000, 15000], False)
        self.assertTariff([10000, 20000], False)

    def test_below_nought_throughout(self):
        self.assertTariff([-1, -2, -4], False)
        self.assertTariff([-1, 2], False)
        self.assertTariff([1, -2], False)

    def test_nought_ahead(self):
        self.assertTariff([0, 0], False)
        self.assertTariff([0, 5], False)

    def test_off_by_one(self):
        for worths in ([2, 4], [2, 4, 8], [3, 6, 12, 24], [5, 5, 5, 5, 5], [2, 2, 4, 4, 8, 8]):
            self.assertTariff(worths, True)
            for rank in range(1, len(worths)):
                for off in (-1, 1):
                    changed = list(worths)
                    changed[rank] += off
                    self.assertTariff(changed, False)

    def test_each_is_held_to_the_one_ahead_of_it_not_to_the_first(self):
        self.assertTariff([1, 2, 3], False)
        self.assertTariff([2, 4, 6], False)
        self.assertTariff([1, 1, 1, 1, 4, 6], False)

    def test_two_worths_exchanged(self):
        worths = [1, 2, 4, 8, 16, 32]
        for one, other in itertools.combinations(range(6), 2):
            changed = list(worths)
            changed[one], changed[other] = changed[other], changed[one]
            self.assertTariff(changed, False)
        self.assertTariff([2, 1], False)
        self.assertTariff([9, 3, 1], False)

    def test_every_small_pair_and_triple(self):
        times = {(one, one * many) for one in range(1, 14) for many in range(1, 14)}
        for one, other in itertools.product(range(-2, 14), repeat=2):
            self.assertTariff([one, other], (one, other) in times)
        for one, other, third in itertools.product(range(0, 9), repeat=3):
            self.assertTariff([one, other, third], (one, other) in times and (other, third) in times)


class Weight(unittest.TestCase):
    def test_told_by_hand(self):
        self.assertEqual(weight([1], [0]), 0)
        self.assertEqual(weight([1], [60]), 60)
        self.assertEqual(weight([7], [3]), 21)
        self.assertEqual(weight([1, 2], [3, 5]), 13)
        self.assertEqual(weight([1, 4, 4], [2, 0, 1]), 6)
        self.assertEqual(weight([1, 2, 4, 8, 16, 32], [1, 1, 1, 1, 1, 1]), 63)
        self.assertEqual(weight([10000] * 6, [60] * 6), 3600000)

    def test_men_counted_one_by_one(self):
        for worths in GOOD:
            for counts in rolls(len(worths), 10, 1):
                men = [worth for worth, count in zip(worths, counts) for man in range(count)]
                with self.subTest(worths=worths, counts=counts):
                    self.assertEqual(weight(worths, counts), sum(men))

    def test_nobody_weighs_nothing(self):
        for worths in GOOD:
            self.assertEqual(weight(worths, [0] * len(worths)), 0)

    def test_both_lists_stay(self):
        for worths in GOOD:
            for counts in rolls(len(worths), 3, 2):
                before = (list(worths), list(counts))
                weight(worths, counts)
                self.assertEqual((worths, counts), before)

    def test_nothing_is_kept_of_what_was_handed_in(self):
        worths, counts = [1, 5], [2, 3]
        self.assertEqual(weight(worths, counts), 17)
        worths[1] = 10
        counts[0] = 4
        self.assertEqual(weight(worths, counts), 34)
        self.assertEqual(weight([1, 5], [2, 3]), 17)

    def test_somewhat_beyond_the_bounds(self):
        self.assertEqual(weight([1] * 8, [61] * 8), 488)
        self.assertEqual(weight([20000], [100]), 2000000)


class Lower(unittest.TestCase):
    def test_told_by_hand(self):
        self.assertEqual(lower([1], [60]), [0])
        self.assertEqual(lower([1, 2], [3, 5]), [0, 3])
        self.assertEqual(lower([1, 4, 4], [2, 0, 1]), [0, 2, 2])
        self.assertEqual(lower([3, 3, 6], [1, 2, 9]), [0, 3, 9])
        self.assertEqual(lower([1, 2, 4, 8, 16, 32], [1] * 6), [0, 1, 3, 7, 15, 31])
        self.assertEqual(lower([10000] * 6, [60] * 6), [0, 600000, 1200000, 1800000, 2400000, 3000000])

    def test_each_is_the_weight_of_the_ranks_below(self):
        for worths in GOOD:
            for counts in rolls(len(worths), 10, 3):
                told = lower(worths, counts)
                with self.subTest(worths=worths, counts=counts):
                    self.assertIs(type(told), list)
                    self.assertEqual(len(told), len(worths))
                    self.assertEqual(told[0], 0)
                    for rank in range(len(worths)):
                        men = [worths[each] * counts[each] for each in range(rank)]
                        self.assertEqual(told[rank], sum(men))

    def test_nobody_weighs_nothing(self):
        for worths in GOOD:
            self.assertEqual(lower(worths, [0] * len(worths)), [0] * len(worths))

    def test_both_lists_stay(self):
        for worths in GOOD:
            for counts in rolls(len(worths), 3, 4):
                before = (list(worths), list(counts))
                lower(worths, counts)
                self.assertEqual((worths, counts), before)

    def test_the_told_list_is_a_new_one(self):
        worths, counts = [1, 2, 4], [1, 1, 1]
        told = lower(worths, counts)
        again = lower(worths, counts)
        told[0] = 99
        told.append(5)
        self.assertEqual(again, [0, 1, 3])
        self.assertEqual(lower(worths, counts), [0, 1, 3])
        self.assertEqual((worths, counts), ([1, 2, 4], [1, 1, 1]))
        self.assertEqual(weight(worths, counts), 7)

    def test_nothing_is_kept_of_what_was_handed_in(self):
        worths, counts = [1, 5], [2, 3]
        told = lower(worths, counts)
        counts[0] = 9
        self.assertEqual(told, [0, 2])
        self.assertEqual(lower(worths, counts), [0, 9])

    def test_somewhat_beyond_the_bounds(self):
        self.assertEqual(lower([1] * 8, [61] * 8), [0, 61, 122, 183, 244, 305, 366, 427])


if __name__ == "__main__":
    unittest.main()
