"""Points [1], [4] and [5], and the interface of cartelship/papers.py."""

import itertools
import random
import unittest

from cartelship.papers import bars, paper
from cartelship.sums import fullest
from helper import (SMALL_TARIFFS, fullest_of_tables, gappy_cases, in_table, random_cases, small_rolls, sums_table,
                    weigh)

# The other weighs 583, the one more. Below rank 2 the one has 37, so 537 is the next to look at; below rank 1 the
# other has 3, so 533 is the fullest.
WORTHS, ONE, OTHER = [1, 10, 100], [17, 2, 9], [3, 58, 0]


def whole_times(many, worth):
    """How often the worth can be taken off; by halves, so that nothing here leans on how Python divides."""
    if many < worth:
        return 0
    half = whole_times(many, worth * 2)
    return 2 * half + (many - half * worth * 2 >= worth)


def due_by_words(worths, one, other, row):
    high, low, rank = row
    if rank not in range(len(worths)) or low >= high or low < 0:
        return False
    times = whole_times(low, worths[rank])
    left = low - times * worths[rank]
    below = [weigh(worths[:rank], roll[:rank]) for roll in (one, other)]
    return whole_times(high, worths[rank]) == times and (left >= below[0] or left >= below[1])


def bars_by_words(worths, one, other, many, rows):
    weights = (weigh(worths, one), weigh(worths, other))
    if len(rows) == 0:
        return many >= weights[0] or many >= weights[1]
    for row in rows:
        if not due_by_words(worths, one, other, row):
            return False
    for place in range(1, len(rows)):
        if rows[place][0] != rows[place - 1][1]:
            return False
    return (rows[0][0] >= weights[0] or rows[0][0] >= weights[1]) and rows[-1][1] == many


def bent(worths, rows):
    """The paper's rows, each time with one thing about them changed."""
    changes = (-10 ** 9, -worths[-1], -worths[0], -2, -1, 1, 2, worths[0], worths[-1], 10 ** 9)
    for at, row in enumerate(rows):
        head, tail = rows[:at], rows[at + 1:]
        for field, change in itertools.product(range(3), changes):
            yield head + [(*row[:field], row[field] + change, *row[field + 1:])] + tail
        yield head + tail
        yield head + [row, row] + tail
        yield head + [(row[0], row[0], row[2])] + tail
        yield head + [(row[1], row[1], row[2])] + tail
        yield head + [(row[1], row[0], row[2])] + tail
        yield head + [(row[0], -1, row[2])] + tail
        for rank in (-len(worths) - 1, -len(worths), row[2] - len(worths), -1, len(worths), 10 ** 9):
            yield head + [(row[0], row[1], rank)] + tail
        for middle in {row[1] + 1, (row[0] + row[1]) // 2, row[0] - 1, row[1], row[0]}:
            for rank in range(len(worths)):
                yield head + [(row[0], middle, row[2]), (middle, row[1], rank)] + tail
                yield head + [(row[0], middle, rank), (middle, row[1], row[2])] + tail
    yield rows[::-1]
    yield rows + rows
    yield rows + [(1, 0, 0)]
    yield [(10 ** 9, 10 ** 9 - 1, len(worths) - 1)] + rows


class Case(unittest.TestCase):
    def assertBars(self, worths, one, other, many, rows, answer):
        before = (list(worths), list(one), list(other), list(rows))
        told = bars(worths, one, other, many, rows)
        turned = bars(worths, other, one, many, rows)
        if told is not answer or turned is not answer:
            self.fail(f"bars({worths}, {one}, {other}, {many}, {rows}) tells {told}, {turned} turned about")
        self.assertEqual((worths, one, other, rows), before)


class Paper(Case):
    def assertPaper(self, worths, one, other):
        before = (list(worths), list(one), list(other))
        rows = paper(worths, one, other)
        many = fullest_of_tables(sums_table(worths, one), sums_table(worths, other))
        self.assertIs(type(rows), list)
        for row in rows:
            self.assertIs(type(row), tuple)
            self.assertEqual([type(part) for part in row], [int, int, int])
        self.assertEqual((worths, one, other), before)
        self.assertTrue(bars_by_words(worths, one, other, many, rows), (worths, one, other, rows))
        self.assertBars(worths, one, other, many, rows, True)
        self.assertBars(worths, one, other, many - 1, rows, False)
        if rows:
            self.assertBars(worths, one, other, many + 1, rows, False)
        return rows

    def test_told_by_hand(self):
        self.assertPaper([1], [3], [5])
        self.assertPaper([1, 5], [0, 2], [9, 0])
        self.assertPaper([1, 5], [4, 0], [0, 7])
        self.assertPaper(WORTHS, ONE, OTHER)
        self.assertEqual(fullest(WORTHS, ONE, OTHER), 533)

    def test_every_two_small_rolls(self):
        for worths in SMALL_TARIFFS:
            rolls = small_rolls(len(worths), 2)
            for one, other in itertools.product(rolls, rolls):
                self.assertPaper(worths, one, other)

    def test_greater_rolls(self):
        for worths, one, other in random_cases(41, 100, greatest=100):
            self.assertPaper(worths, one, other)

    def test_rolls_with_gaps(self):
        many_rows = 0
        for worths, one, other in gappy_cases(42, 300):
            many_rows += len(self.assertPaper(worths, one, other)) > 1
        # Papers of one row would not show whether rows hang together.
        self.assertGreater(many_rows, 20)

    def test_the_greatest_rolls(self):
        self.assertPaper([10000] * 6, [60] * 6, [60] * 6)
        self.assertPaper([1, 10, 100, 1000, 10000, 10000], [8, 8, 8, 8, 59, 60], [60, 60, 60, 60, 60, 59])

    def test_the_told_list_is_a_new_one(self):
        worths, one, other = [1, 5], [0, 2], [9, 0]
        for left, right in ((one, other), (one, one), ([0, 0], [0, 0])):
            told = paper(worths, left, right)
            before = list(told)
            again = paper(worths, left, right)
            told.append((7, 7, 7))
            told[0] = (1, 1, 1)
            self.assertEqual(again, before)
            self.assertEqual(paper(worths, left, right), before)
        self.assertEqual((worths, one, other), ([1, 5], [0, 2], [9, 0]))

    def test_somewhat_beyond_the_bounds(self):
        self.assertPaper([1, 2, 4, 8, 16, 32, 64, 128], [0, 61, 0, 1, 0, 0, 3, 0], [70, 0, 1, 0, 2, 0, 0, 5])
        self.assertPaper([1, 20000], [100, 1], [61, 100])


class Bars(Case):
    def assertByWords(self, worths, one, other, many, rows):
        self.assertBars(worths, one, other, many, rows, bars_by_words(worths, one, other, many, rows))

    def test_told_by_hand(self):
        # The one weighs 10, the other 9; what is beyond one five can not be made by the one.
        self.assertBars([1, 5], [0, 2], [9, 0], 5, [(9, 5, 1)], True)
        self.assertBars([1, 5], [0, 2], [9, 0], 5, [(9, 7, 1), (7, 5, 1)], True)
        self.assertBars([1, 5], [0, 2], [9, 0], 6, [(9, 6, 1)], True)
        self.assertBars([1, 5], [0, 2], [9, 0], 4, [(9, 4, 1)], False)
        self.assertBars([1, 5], [0, 2], [9, 0], 5, [(10, 5, 1)], False)
        self.assertBars([1, 5], [0, 2], [9, 0], 5, [(8, 5, 1)], False)
        self.assertBars([1, 5], [0, 2], [9, 0], 5, [(9, 5, 0)], False)
        self.assertBars([1, 5], [0, 2], [9, 0], 6, [(9, 5, 1)], False)
        self.assertBars([1, 5], [0, 2], [9, 0], 4, [(9, 5, 1)], False)
        self.assertBars([1, 5], [0, 2], [9, 0], 5, [], False)

    def test_what_is_left_is_held_against_the_men_below(self):
        # Below rank 1 the one has 2 men, the other 4: the lesser of them is what counts.
        self.assertBars([1, 5], [2, 2], [4, 1], 7, [(9, 7, 1)], True)
        self.assertBars([1, 5], [2, 2], [4, 1], 6, [(9, 6, 1)], False)
        self.assertBars([1, 5], [3, 2], [4, 1], 7, [(9, 7, 1)], False)
        self.assertBars([1, 5], [3, 2], [4, 1], 8, [(9, 8, 1)], True)

    def test_the_first_high(self):
        # The one weighs 12, the other 26.
        self.assertBars([2, 10], [1, 1], [3, 2], 12, [(13, 12, 1)], True)
        self.assertBars([2, 10], [1, 1], [3, 2], 12, [(12, 12, 1)], False)
        self.assertBars([2, 10], [1, 1], [3, 2], 13, [(14, 13, 1)], True)
        self.assertBars([2, 10], [1, 1], [3, 2], 24, [(25, 24, 1)], True)
        self.assertBars([2, 10], [1, 1], [3, 2], 2, [(9, 2, 1)], False)
        self.assertBars([2, 10], [0, 1], [3, 2], 10, [(11, 10, 0)], True)
        self.assertBars([2, 10], [0, 1], [3, 2], 8, [(9, 8, 0)], False)

    def test_rank_nought_has_nobody_below(self):
        self.assertBars([3], [2], [5], 6, [(8, 6, 0)], True)
        self.assertBars([3], [2], [5], 6, [(9, 6, 0)], False)
        self.assertBars([3], [2], [5], 7, [(8, 7, 0)], True)
        self.assertBars([1], [2], [5], 2, [(3, 2, 0)], False)

    def test_a_paper_without_rows(self):
        for worths, one, other in [*random_cases(43, 60), *gappy_cases(44, 60)]:
            lesser, greater = sorted((weigh(worths, one), weigh(worths, other)))
            for many in (-10 ** 30, -1, 0, lesser - 1, lesser, lesser + 1, greater - 1, greater, greater + 1, 10 ** 30):
                self.assertBars(worths, one, other, many, [], many >= lesser)

    def test_rows_that_do_not_hang_together(self):
        for many, rows, answer in (
            (533, [(583, 537, 2), (537, 533, 1)], True),
            (533, [(583, 538, 2), (538, 533, 1)], True),
            (533, [(583, 538, 2), (537, 533, 1)], False),
            (533, [(583, 537, 2), (538, 533, 1)], False),
            (533, [(583, 540, 2), (540, 533, 1)], False),
            (533, [(583, 536, 2), (536, 533, 1)], False),
            (533, [(537, 533, 1), (583, 537, 2)], False),
            (537, [(537, 533, 1), (583, 537, 2)], False),
            (533, [(583, 537, 2)], False),
            (537, [(583, 537, 2)], True),
            (533, [(537, 533, 1)], False),
            (533, [(583, 537, 2), (537, 533, 1), (537, 533, 1)], False),
            (533, [(583, 537, 2), (583, 537, 2), (537, 533, 1)], False),
        ):
            self.assertBars(WORTHS, ONE, OTHER, many, rows, answer)

    def test_a_rank_out_of_the_tariff(self):
        for rank in (-10 ** 30, -3, -2, -1, 2, 3, 6, 10 ** 30):
            self.assertBars([1, 5], [0, 2], [9, 0], 5, [(9, 5, rank)], False)
        # With a rank below 0 taken for one from the end, this one would be due.
        self.assertBars([1, 5], [0, 2], [9, 0], 5, [(9, 5, -1)], False)
        self.assertBars([3], [2], [5], 6, [(8, 6, -1)], False)

    def test_low_and_high(self):
        for high, low in ((5, 5), (9, 9), (9, 10), (5, 9), (9, -1), (-1, -2), (-1, -5), (10 ** 30, 10 ** 30)):
            self.assertBars([1, 5], [0, 2], [9, 0], low, [(high, low, 1)], False)
        self.assertBars([1, 5], [0, 0], [0, 0], 0, [(4, 0, 1)], True)
        self.assertBars([1, 5], [0, 0], [0, 0], -1, [(4, -1, 1)], False)
        self.assertBars([1, 5], [0, 0], [0, 0], -4, [(4, 0, 1), (0, -4, 1)], False)
        self.assertBars([1, 5], [0, 0], [0, 0], -4, [(-1, -4, 1)], False)

    def test_bent_papers(self):
        answers = {True: 0, False: 0}
        for worths, one, other in [([1, 5], [0, 2], [9, 0]), (WORTHS, ONE, OTHER), *gappy_cases(45, 60, (2, 3))]:
            rows = paper(worths, one, other)
            many = fullest(worths, one, other)
            for changed in bent(worths, rows):
                for told in {many, changed[-1][1] if changed else many}:
                    answer = bars_by_words(worths, one, other, told, changed)
                    answers[answer] += 1
                    self.assertBars(worths, one, other, told, changed, answer)
        # Bent papers of both kinds were met, so neither answer is told blindly.
        self.assertGreater(answers[True], 50)
        self.assertGreater(answers[False], 1000)

    def test_numbers_of_any_size(self):
        for great in (10 ** 9, 10 ** 30, 10 ** 400):
            self.assertBars([1, 5], [0, 2], [9, 0], great * 5, [(great * 5 + 4, great * 5, 1)], True)
            self.assertBars([1, 5], [0, 2], [9, 0], great * 5, [(great * 5 + 5, great * 5, 1)], False)
            self.assertBars([1, 5], [0, 2], [9, 0], -great, [(9, -great, 1)], False)
            self.assertBars([1, 5], [0, 2], [9, 0], 5, [(9, 5, 1), (5, 5 - great, 1)], False)

    def test_every_paper_of_one_or_two_small_rows(self):
        for worths, one, other in (([1, 3], [1, 2], [0, 3]), ([2, 4], [1, 1], [3, 0]), ([1, 4], [3, 1], [1, 1])):
            rows = list(itertools.product(range(-2, 10), range(-2, 10), range(-1, 3)))
            for row in rows:
                for many in range(-2, 10):
                    self.assertByWords(worths, one, other, many, [row])
            kept = [row for row in rows if due_by_words(worths, one, other, row) or row[0] - row[1] == 1]
            for ahead, behind in itertools.product(kept, kept):
                self.assertByWords(worths, one, other, behind[1], [ahead, behind])

    def test_no_weight_above_a_barred_one_is_even(self):
        source = random.Random(46)
        for worths, one, other in gappy_cases(47, 40, (2, 3)):
            table = sums_table(worths, one) & sums_table(worths, other)
            top = table.bit_length() - 1
            lesser = min(weigh(worths, one), weigh(worths, other))
            for turn in range(60):
                low = source.randint(0, lesser)
                rows = [(lesser, low, source.randrange(6))]
                if bars(worths, one, other, low, rows):
                    self.assertGreaterEqual(low, top)
            self.assertTrue(in_table(table, top))

    def test_nothing_is_kept_of_what_was_handed_in(self):
        worths, one, other, rows = [1, 5], [0, 2], [9, 0], [(9, 5, 1)]
        self.assertBars(worths, one, other, 5, rows, True)
        one[0] = 1
        self.assertBars(worths, one, other, 5, rows, False)
        self.assertBars(worths, one, other, 6, [(9, 6, 1)], True)
        rows[0] = (9, 6, 1)
        self.assertBars(worths, one, other, 6, rows, True)
        worths[1] = 3
        self.assertBars(worths, one, other, 6, rows, False)


if __name__ == "__main__":
    unittest.main()
