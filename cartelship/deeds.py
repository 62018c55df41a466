"""What deeds do: how all men and accounts stand at one moment, and how each deed changes that or is refused."""

from cartelship.errors import Gone, Held, NotHeld, OffRoll, Own, Uneven
from cartelship.rolls import roll_in_order


# A cartel is one for both sides, whichever is named first.
def pair_of(one, other):
    return (min(one, other), max(one, other))


class Man:
    def __init__(self, home, grade):
        self.home = home
        self.grade = grade
        self.dead = False
        # Each side on whose roll he is, with a tuple (since, word). The holder is the one side that has him without
        # his word, so it is not kept a second time.
        self.claims = {}


class Muster:
    def __init__(self, man_table, cartel_table):
        self.roster = {}
        for name, origin in man_table.items():
            self.roster[name] = Man(origin[0], origin[1])
        self.treaties = cartel_table
        self.balances = {}


def holder_of(man):
    for side, claim in man.claims.items():
        if not claim[1]:
            return side
    return ""


def words_of(man):
    return sorted([side for side, claim in man.claims.items() if claim[1]])


def way_of(man):
    if man.dead:
        return "gone"
    if holder_of(man) != "":
        return "held"
    return "word" if man.claims else "free"


# A man of another side may well be held across, but he is not on the roll of this one.
def on_roll(man, one, other):
    return man.home == one and other in man.claims


def roll_of(muster, one, other):
    entries = []
    for name, man in muster.roster.items():
        if on_roll(man, one, other):
            claim = man.claims[other]
            entries.append((name, man.grade, claim[0], claim[1]))
    return roll_in_order(entries)


def account_of(muster, one, other):
    return muster.balances.get((one, other), 0)


def need_alive(man):
    if man.dead:
        raise Gone("he is dead")


def need_held(man):
    need_alive(man)
    if holder_of(man) == "":
        raise NotHeld("no side holds him")


def take_man(muster, day, deed):
    man = muster.roster[deed[1]]
    side = deed[2]
    if man.home == side:
        raise Own("he is the side's own man")
    need_alive(man)
    if holder_of(man) != "":
        raise Held("a side holds him")
    # This also ends the word that he may have given to the side.
    man.claims[side] = (day, False)


def send_on_word(muster, day, deed):
    man = muster.roster[deed[1]]
    need_held(man)
    side = holder_of(man)
    man.claims[side] = (man.claims[side][0], True)


def send_home(muster, day, deed):
    man = muster.roster[deed[1]]
    need_held(man)
    man.claims.pop(holder_of(man))


def give_rank(muster, day, deed):
    man = muster.roster[deed[1]]
    need_alive(man)
    man.grade = deed[2]


def let_die(muster, day, deed):
    man = muster.roster[deed[1]]
    need_alive(man)
    man.dead = True
    man.claims = {}


def need_on_roll(muster, one, other, names):
    for name in names:
        if not on_roll(muster.roster[name], one, other):
            raise OffRoll("a man is not on the roll of his list")


def weight_of(muster, worths, names):
    return sum([worths[muster.roster[name].grade] for name in names])


# Whichever claim the side across has on a man, to be held or his word, the exchange ends this one and no other.
def end_claims(muster, across, names):
    for name in names:
        muster.roster[name].claims.pop(across)


def exchange(muster, day, deed):
    one = deed[1]
    other = deed[2]
    need_on_roll(muster, one, other, deed[3])
    need_on_roll(muster, other, one, deed[4])
    terms = muster.treaties[pair_of(one, other)]
    gone_home = weight_of(muster, terms[0], deed[3]) - weight_of(muster, terms[0], deed[4])
    account = account_of(muster, one, other) + gone_home
    if abs(account) > terms[1]:
        raise Uneven("the account would be beyond the limit")
    muster.balances[(one, other)] = account
    muster.balances[(other, one)] = -account
    end_claims(muster, other, deed[3])
    end_claims(muster, one, deed[4])


DOINGS = {
    "take": take_man,
    "word": send_on_word,
    "free": send_home,
    "flee": send_home,
    "rank": give_rank,
    "die": let_die,
    "swap": exchange,
}


def do_deed(muster, day, deed):
    doing = DOINGS[deed[0]]
    doing(muster, day, deed)


# A side may have the name of a man, so only the places of men are looked at.
def men_named(deed):
    if deed[0] == "swap":
        return list(deed[3]) + list(deed[4])
    return [deed[1]]
