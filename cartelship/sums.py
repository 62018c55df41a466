"""Which weights a roll can put up, and the fullest weight that two rolls can put up both."""

from cartelship.errors import NoPart
from cartelship.rolls import lesser_lower, lesser_weight
from cartelship.tariffs import ranks_down, weight


# Each worth is a whole number of times those of lower ranks. So where lower men weigh as much as one more man of a
# rank or beyond, some of them weigh just as much as he does, and he can go in their stead: going down from the
# highest rank by as many as there are misses no weight, and no other part need be tried.
def part_towards(worths, counts, many):
    part = [0] * len(worths)
    missing = max(many, 0)
    for rank in ranks_down(worths):
        part[rank] = min(counts[rank], missing // worths[rank])
        missing -= part[rank] * worths[rank]
    return part


def can_put(worths, counts, many):
    return weight(worths, part_towards(worths, counts, many)) == many


def put_up(worths, counts, many):
    part = part_towards(worths, counts, many)
    if weight(worths, part) != many:
        raise NoPart("the roll can not put up this weight")
    return part


# Men of a rank and of those above it weigh whole times its worth, so what is left of an even weight beyond whole
# times is made by the men of lower ranks of both rolls.
def without_excess(many, worth, most):
    return many - max(0, many % worth - most)


# Lowering a weight for one rank leaves it within the same whole times of all higher worths, with less beyond them, so
# what was mended for these stays mended, and once through the ranks is enough.
def descent(worths, one, other):
    most = lesser_lower(worths, one, other)
    weights = [lesser_weight(worths, one, other)]
    for rank in ranks_down(worths):
        weights.append(without_excess(weights[-1], worths[rank], most[rank]))
    return weights


def fullest(worths, one, other):
    return descent(worths, one, other)[-1]
