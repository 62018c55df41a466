"""What several tests need: tariffs, rolls, and all that can be told of a roll by going through it man by man."""

import itertools
import random

# Every small tariff whose worths lie close together, where a slip in one rank shows soonest.
SMALL_TARIFFS = tuple(
    [one * head for head in (1, *tail)]
    for one in (1, 2, 3)
    for tail in ((), (1,), (2,), (3,), (5,), (1, 1), (1, 3), (2, 2), (2, 4), (2, 6), (3, 3), (3, 6), (4, 12))
)


def random_tariff(source, ranks=None, greatest=10000):
    ranks = ranks or source.randint(1, 6)
    worths = [source.choice([1, 1, 1, 2, 3, 5, 10, source.randint(1, greatest)])]
    while len(worths) < ranks:
        most = greatest // worths[-1]
        worths.append(worths[-1] * min(most, source.choice([1, 2, 2, 3, 4, 5, 7, 10, source.randint(1, most)])))
    return worths


def random_roll(source, ranks, most=60):
    # Rolls with few men have gaps, rolls with many have none: both kinds are wanted, and both within one roll.
    bound = source.choice([1, 2, 3, 6, most])
    return [source.choice([0, source.randint(0, bound), source.randint(0, most), bound]) for rank in range(ranks)]


def random_cases(seed, many, rolls=2, greatest=10000):
    source = random.Random(seed)
    for turn in range(many):
        worths = random_tariff(source, greatest=greatest)
        yield (worths, *[random_roll(source, len(worths)) for roll in range(rolls)])


def gappy_cases(seed, many, times=(2, 3, 4, 5)):
    """Six ranks and men too few to make up one of the next rank, so that many weights between can not be put up."""
    source = random.Random(seed)
    for turn in range(many):
        worths = [source.choice([1, 2, 3])]
        while len(worths) < 6:
            worths.append(worths[-1] * source.choice(times))
        # One roll has some men of low ranks, the other has more of them and fewer above.
        one = [source.randint(0, 2) for rank in range(5)] + [source.randint(0, 9)]
        other = [source.choice([0, 1, 2, 3, 5, 9]) for rank in range(4)] + [source.randint(0, 60), 0]
        yield (worths, *source.choice([(one, other), (other, one)]))


def small_rolls(ranks, most):
    return [list(counts) for counts in itertools.product(range(most + 1), repeat=ranks)]


def all_parts(counts):
    return [list(part) for part in itertools.product(*[range(count + 1) for count in counts])]


def weigh(worths, counts):
    return sum(worth for worth, count in zip(worths, counts) for man in range(count))


def sums_table(worths, counts):
    """A number whose bit of each place is 1 where the roll can put up a weight of that many, man by man."""
    table = 1
    for worth, count in zip(worths, counts):
        for man in range(count):
            table |= table << worth
    return table


def in_table(table, many):
    return many >= 0 and table >> many & 1 == 1


def fullest_of_tables(one, other):
    return (one & other).bit_length() - 1
