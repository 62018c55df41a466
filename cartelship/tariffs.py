"""Tariffs of ranks, and what rolls of men weigh by them."""

MOST_RANKS = 6
MOST_WORTH = 10000


def good_tariff(worths):
    if not 1 <= len(worths) <= MOST_RANKS:
        return False
    # Every worth is a whole number of times 1, so the first one is held to nothing by this.
    ahead = 1
    for worth in worths:
        if not 1 <= worth <= MOST_WORTH or worth % ahead != 0:
            return False
        ahead = worth
    return True


def weight(worths, counts):
    return sum([worth * count for worth, count in zip(worths, counts)])


def lower(worths, counts):
    weights = []
    below = 0
    for worth, count in zip(worths, counts):
        weights.append(below)
        below += worth * count
    return weights


def ranks_down(worths):
    return list(range(len(worths) - 1, -1, -1))
