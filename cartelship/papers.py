"""Papers: rows (high, low, rank) that show that no weight above a told one is even for two rolls."""

from cartelship.rolls import lesser_lower, lesser_weight
from cartelship.sums import descent
from cartelship.tariffs import ranks_down


def paper(worths, one, other):
    weights = descent(worths, one, other)
    ranks = ranks_down(worths)
    return [(high, low, rank) for high, low, rank in zip(weights, weights[1:], ranks) if low < high]


def is_due(worths, most, high, low, rank):
    # Python would take a rank below 0 for one counted from the end.
    if not 0 <= rank < len(worths) or not 0 <= low < high:
        return False
    worth = worths[rank]
    return high // worth == low // worth and low % worth >= most[rank]


# With the told weight as one more high behind the rows, each low has the high that it must be, and a paper without
# rows has a first high to be held against the rolls as well.
def bars(worths, one, other, many, rows):
    highs = [row[0] for row in rows] + [many]
    lows = [row[1] for row in rows]
    if highs[0] < lesser_weight(worths, one, other) or highs[1:] != lows:
        return False
    most = lesser_lower(worths, one, other)
    return all([is_due(worths, most, high, low, rank) for high, low, rank in rows])
