"""Points [1] to [4], and the interface of cartelship/sums.py."""

import contextlib
import itertools
import random
import signal
import unittest

from cartelship.errors import CartelError, NoPart
from cartelship.sums import can_put, fullest, put_up
from helper import (SMALL_TARIFFS, all_parts, fullest_of_tables, gappy_cases, in_table, random_cases, random_roll,
                    random_tariff, small_rolls, sums_table, weigh)

# Six ranks, each with as many men as a roll may have, and worths as great as they may be.
GREATEST = ([10000] * 6, [60] * 6)
GAPS = ([1, 10, 100, 1000, 10000, 10000], [8, 8, 8, 8, 59, 60])


@contextlib.contextmanager
def soon(seconds=20):
    def stop(number, frame):
        raise AssertionError("not told soon")
    before = signal.signal(signal.SIGALRM, stop)
    signal.alarm(seconds)
    try:
        yield
    finally:
        signal.alarm(0)
        signal.signal(signal.SIGALRM, before)


def small_cases(most=2):
    for worths in SMALL_TARIFFS:
        for counts in small_rolls(len(worths), most):
            yield worths, counts


def asked_weights(source, worths, counts):
    """Weights of parts and those one beside them, and the ends of the roll and what lies beyond."""
    whole = weigh(worths, counts)
    asked = [-10 ** 30, -whole, -2, -1, 0, 1, whole - 1, whole, whole + 1, 2 * whole, 10 ** 30]
    for turn in range(12):
        many = weigh(worths, [source.randint(0, count) for count in counts])
        asked += [many - worths[0], many - 1, many, many + 1, many + worths[-1]]
    return asked + [source.randint(0, whole) for turn in range(20)]


def part_by_words(worths, counts, many):
    """Man by man from the highest rank down, whoever does not weigh more than what is still missing."""
    part = [0] * len(worths)
    for rank in sorted(range(len(worths)), reverse=True):
        while part[rank] < counts[rank] and worths[rank] <= many:
            part[rank] += 1
            many -= worths[rank]
    return part


class CanPut(unittest.TestCase):
    def assertCan(self, worths, counts, many, answer):
        before = (list(worths), list(counts))
        told = can_put(worths, counts, many)
        if told is not answer or (worths, counts) != before:
            self.fail(f"can_put({before[0]}, {before[1]}, {many}) tells {told}, left {worths}, {counts}")

    def test_told_by_hand(self):
        for many, answer in ((0, True), (1, False), (2, True), (3, False), (4, True), (5, False), (-2, False)):
            self.assertCan([2], [2], many, answer)
        for many, answer in ((5, True), (6, True), (7, True), (4, False), (8, False), (10, True), (12, True)):
            self.assertCan([1, 5], [2, 2], many, answer)
        for many, answer in ((3, True), (6, True), (9, True), (12, True), (1, False), (15, False)):
            self.assertCan([3, 6], [2, 1], many, answer)

    def test_worths_that_are_alike(self):
        for many in range(-1, 20):
            self.assertCan([3, 3, 3], [1, 2, 3], many, many in (0, 3, 6, 9, 12, 15, 18))

    def test_higher_men_alone_do_not_do(self):
        self.assertCan([1, 10], [9, 1], 19, True)
        self.assertCan([1, 10], [8, 2], 9, False)
        self.assertCan([1, 10], [8, 2], 19, False)
        self.assertCan([1, 10], [8, 2], 28, True)
        self.assertCan([1, 2, 10], [1, 4, 3], 9, True)
        self.assertCan([1, 2, 10], [0, 5, 3], 9, False)

    def test_every_weight_of_every_small_roll(self):
        for worths, counts in small_cases(3):
            weights = {weigh(worths, part) for part in all_parts(counts)}
            for many in range(-3, weigh(worths, counts) + 4):
                self.assertCan(worths, counts, many, many in weights)

    def test_every_weight_of_greater_rolls(self):
        gappy = [(worths, one) for worths, one, other in gappy_cases(15, 20, times=(2, 3))]
        for worths, counts in [*random_cases(11, 60, rolls=1, greatest=40), *gappy]:
            table = sums_table(worths, counts)
            for many in range(-2, weigh(worths, counts) + 3):
                self.assertCan(worths, counts, many, in_table(table, many))

    def test_parts_and_what_is_beside_them(self):
        source = random.Random(12)
        for worths, counts in [*random_cases(13, 60, rolls=1), GREATEST, GAPS]:
            table = sums_table(worths, counts)
            for many in asked_weights(source, worths, counts):
                self.assertCan(worths, counts, many, in_table(table, many))

    def test_nobody(self):
        for worths in SMALL_TARIFFS:
            for many in range(-3, 20):
                self.assertCan(worths, [0] * len(worths), many, many == 0)

    def test_weights_of_any_size(self):
        for worths, counts in random_cases(14, 20, rolls=1):
            for many in (10 ** 18, -10 ** 18, 10 ** 5000, -10 ** 5000, weigh(worths, counts) + 10 ** 100 * worths[-1]):
                self.assertCan(worths, counts, many, False)

    def test_told_soon(self):
        worths = [1, 10 ** 4, 10 ** 8, 10 ** 12, 10 ** 16, 10 ** 20]
        counts = [10 ** 9] * 6
        whole = sum(worth * 10 ** 9 for worth in worths)
        with soon():
            self.assertCan(worths, counts, whole, True)
            self.assertCan(worths, counts, whole - 12345678, True)
            self.assertCan(worths, counts, whole + 1, False)
            for turn in range(300):
                self.assertCan(*GREATEST, 3590000, True)
                self.assertCan(*GREATEST, 3590001, False)

    def test_somewhat_beyond_the_bounds(self):
        self.assertCan([1] * 8, [61] * 8, 488, True)
        self.assertCan([1] * 8, [61] * 8, 489, False)
        self.assertCan([20000], [100], 1980000, True)

    def test_nothing_is_kept_of_what_was_handed_in(self):
        worths, counts = [1, 5], [1, 1]
        self.assertCan(worths, counts, 6, True)
        counts[0] = 0
        self.assertCan(worths, counts, 6, False)
        worths[1] = 6
        self.assertCan(worths, counts, 6, True)


class PutUp(unittest.TestCase):
    def assertPutUp(self, worths, counts, many, answer):
        before = (list(worths), list(counts))
        told = put_up(worths, counts, many)
        with self.subTest(worths=before[0], counts=before[1], many=many):
            self.assertIs(type(told), list)
            self.assertEqual({type(count) for count in told}, {int})
            self.assertEqual(told, answer)
            self.assertEqual((worths, counts), before)

    def assertNoPart(self, worths, counts, many):
        before = (list(worths), list(counts))
        with self.assertRaises(NoPart) as caught:
            put_up(worths, counts, many)
        self.assertIs(type(caught.exception), NoPart)
        self.assertIsInstance(caught.exception, CartelError)
        self.assertIsInstance(caught.exception, ValueError)
        self.assertEqual((worths, counts), before)

    def test_told_by_hand(self):
        self.assertPutUp([1], [60], 60, [60])
        self.assertPutUp([1], [60], 0, [0])
        self.assertPutUp([1, 5], [9, 9], 12, [2, 2])
        self.assertPutUp([1, 5], [9, 1], 12, [7, 1])
        self.assertPutUp([1, 2, 6], [10, 4, 1], 13, [1, 3, 1])
        self.assertPutUp([1, 2, 6], [10, 4, 1], 24, [10, 4, 1])

    def test_of_like_worths_the_highest_rank_goes_first(self):
        self.assertPutUp([4, 4, 4], [2, 2, 2], 4, [0, 0, 1])
        self.assertPutUp([4, 4, 4], [2, 2, 2], 12, [0, 1, 2])
        self.assertPutUp([4, 4, 4], [2, 2, 2], 20, [1, 2, 2])

    def test_every_weight_of_every_small_roll(self):
        for worths, counts in small_cases():
            best = {}
            for part in all_parts(counts):
                # As many as can be of the highest rank, then of the next one: the greatest part read from behind.
                best[weigh(worths, part)] = max(best.get(weigh(worths, part), []), part[::-1])
            for many in range(-2, weigh(worths, counts) + 3):
                if many in best:
                    self.assertPutUp(worths, counts, many, best[many][::-1])
                else:
                    self.assertNoPart(worths, counts, many)

    def test_parts_and_what_is_beside_them(self):
        source = random.Random(21)
        for worths, counts in [*random_cases(22, 40, rolls=1), GREATEST, GAPS]:
            for many in asked_weights(source, worths, counts):
                if can_put(worths, counts, many):
                    part = put_up(worths, counts, many)
                    self.assertEqual(weigh(worths, part), many)
                    self.assertTrue(all(0 <= few <= count for few, count in zip(part, counts)))
                    self.assertPutUp(worths, counts, many, part_by_words(worths, counts, many))
                else:
                    self.assertNoPart(worths, counts, many)

    def test_wrong_weights(self):
        for many in (-10 ** 5000, -10 ** 20, -1, 1, 3, 13, 10 ** 20, 10 ** 5000):
            self.assertNoPart([2, 4], [2, 2], many)

    def test_nobody(self):
        for worths in SMALL_TARIFFS:
            self.assertPutUp(worths, [0] * len(worths), 0, [0] * len(worths))
            self.assertNoPart(worths, [0] * len(worths), worths[0])

    def test_the_told_list_is_a_new_one(self):
        worths, counts = [1, 2], [3, 4]
        for many, part in ((11, [3, 4]), (0, [0, 0]), (5, [1, 2])):
            told = put_up(worths, counts, many)
            again = put_up(worths, counts, many)
            told[0] += 7
            told.append(1)
            self.assertEqual(again, part)
            self.assertPutUp(worths, counts, many, part)
            self.assertEqual((worths, counts), ([1, 2], [3, 4]))

    def test_nothing_is_kept_of_what_was_handed_in(self):
        worths, counts = [1, 2], [3, 4]
        told = put_up(worths, counts, 11)
        counts[1] = 0
        worths[0] = 2
        self.assertEqual(told, [3, 4])

    def test_somewhat_beyond_the_bounds(self):
        self.assertPutUp([1] * 8, [61] * 8, 62, [0, 0, 0, 0, 0, 0, 1, 61])


class Fullest(unittest.TestCase):
    def assertFullest(self, worths, one, other, answer):
        before = (list(worths), list(one), list(other))
        for left, right in ((one, other), (other, one)):
            told = fullest(worths, left, right)
            if type(told) is not int or told != answer or (worths, one, other) != before:
                self.fail(f"fullest({before[0]}, {left}, {right}) tells {told}, not {answer}")

    def assertByTables(self, worths, one, other):
        answer = fullest_of_tables(sums_table(worths, one), sums_table(worths, other))
        self.assertFullest(worths, one, other, answer)
        return answer

    def test_told_by_hand(self):
        self.assertFullest([1], [3], [5], 3)
        self.assertFullest([4], [3], [0], 0)
        self.assertFullest([1, 5], [0, 2], [9, 0], 5)
        self.assertFullest([1, 5], [4, 0], [0, 7], 0)
        self.assertFullest([1, 5], [0, 3], [4, 2], 10)
        self.assertFullest([1, 2, 6], [1, 0, 2], [10, 1, 0], 12)
        self.assertFullest([1, 2, 4, 8, 16, 32], [1] * 6, [0, 1, 1, 1, 1, 1], 62)

    def test_where_each_of_several_ranks_lowers_it(self):
        self.assertFullest([1, 10, 100], [0, 8, 3], [7, 30, 0], 300)
        self.assertFullest([1, 10, 100], [3, 0, 5], [60, 40, 0], 403)
        self.assertFullest([1, 10, 100], [3, 5, 5], [0, 60, 0], 550)
        self.assertFullest([1, 10, 100], [3, 7, 9], [8, 59, 1], 673)

    def test_every_two_small_rolls(self):
        for worths in SMALL_TARIFFS:
            tables = [(counts, sums_table(worths, counts)) for counts in small_rolls(len(worths), 2)]
            for (one, left), (other, right) in itertools.combinations_with_replacement(tables, 2):
                self.assertFullest(worths, one, other, fullest_of_tables(left, right))

    def test_greater_rolls(self):
        for worths, one, other in random_cases(31, 200):
            self.assertByTables(worths, one, other)
        for worths, one, other in random_cases(32, 400, greatest=60):
            self.assertByTables(worths, one, other)

    def test_rolls_with_gaps(self):
        for worths, one, other in gappy_cases(38, 600):
            self.assertByTables(worths, one, other)

    def test_the_greatest_rolls(self):
        worths, counts = GAPS
        self.assertByTables(worths, counts, [60, 0, 60, 0, 60, 60])
        self.assertByTables(worths, counts, [60, 60, 60, 60, 60, 59])
        self.assertFullest(*GREATEST, [60] * 6, 3600000)
        self.assertFullest(*GREATEST, [60, 0, 60, 0, 60, 1], 1810000)

    def test_a_roll_with_itself_and_with_nobody(self):
        for worths, one in random_cases(33, 100, rolls=1):
            self.assertFullest(worths, one, list(one), weigh(worths, one))
            self.assertFullest(worths, one, one, weigh(worths, one))
            self.assertFullest(worths, one, [0] * len(one), 0)

    def test_one_man_more(self):
        for worths, one, other in random_cases(34, 40, greatest=500):
            ahead = self.assertByTables(worths, one, other)
            for rank, worth in enumerate(worths):
                more = [count + (each == rank) for each, count in enumerate(one)]
                other_more = [count + (each == rank) for each, count in enumerate(other)]
                self.assertGreaterEqual(self.assertByTables(worths, more, other), ahead)
                self.assertGreaterEqual(self.assertByTables(worths, one, other_more), ahead)
                self.assertGreaterEqual(self.assertByTables(worths, more, other_more), ahead + worth)

    def test_all_worths_times_a_number(self):
        for worths, one, other in random_cases(35, 200, greatest=1000):
            ahead = fullest(worths, one, other)
            for times in (2, 3, 7, 10):
                self.assertFullest([worth * times for worth in worths], one, other, ahead * times)

    def test_both_can_put_it_up(self):
        for worths, one, other in random_cases(36, 300):
            many = fullest(worths, one, other)
            self.assertTrue(can_put(worths, one, many))
            self.assertTrue(can_put(worths, other, many))

    def test_told_soon(self):
        worths = [1, 10 ** 4, 10 ** 8, 10 ** 12, 10 ** 16, 10 ** 20]
        source = random.Random(37)
        with soon():
            self.assertFullest(worths, [10 ** 9] * 6, [10 ** 9 + 5] * 6, 10 ** 9 * sum(worths))
            self.assertFullest(worths, [7, 10 ** 9, 0, 0, 0, 0], [10 ** 15, 0, 0, 0, 0, 0], 10 ** 13 + 7)
            for turn in range(300):
                self.assertFullest(*GREATEST, [60] * 6, 3600000)
                tariff = random_tariff(source, 6)
                fullest(tariff, random_roll(source, 6), random_roll(source, 6))

    def test_somewhat_beyond_the_bounds(self):
        self.assertFullest([1] * 8, [61] * 8, [70] * 8, 488)
        self.assertFullest([1, 20000], [100, 1], [61, 100], 20061)

    def test_nothing_is_kept_of_what_was_handed_in(self):
        worths, one, other = [1, 5], [0, 2], [9, 0]
        self.assertFullest(worths, one, other, 5)
        other[1] = 2
        self.assertFullest(worths, one, other, 10)
        worths[1] = 3
        self.assertFullest(worths, one, other, 6)


if __name__ == "__main__":
    unittest.main()
