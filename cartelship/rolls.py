"""Rolls: what two of them have in common, and the men who stand on one as tuples (name, rank, since, word)."""

from cartelship.tariffs import lower, weight


# What is even for two rolls is held by the lesser of them, whichever it is.
def lesser_weight(worths, one, other):
    return min(weight(worths, one), weight(worths, other))


def lesser_lower(worths, one, other):
    return [min(ours, theirs) for ours, theirs in zip(lower(worths, one), lower(worths, other))]


def place_on_roll(entry):
    return (-entry[1], entry[2], entry[0])


def roll_in_order(entries):
    return sorted(entries, key=place_on_roll)


def rank_counts(entries, ranks):
    counts = [0] * ranks
    for name, rank, since, word in entries:
        counts[rank] += 1
    return counts


# The entries are handed in as the roll has them, so the first that are met of a rank are its first.
def names_of_part(entries, part):
    missing = list(part)
    names = []
    for name, rank, since, word in entries:
        if missing[rank] > 0:
            missing[rank] -= 1
            names.append(name)
    return names
