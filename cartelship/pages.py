"""Pages: all that a book holds at one time, and the page that follows each change, or its refusal."""

from cartelship.deeds import Muster, do_deed, men_named, pair_of
from cartelship.errors import (
    BadDay, BadLimit, BadName, BadRank, BadTariff, Breaks, CartelError, Full, NoCartel, NoDeed, NoMan, NoMen, NoSide,
    Own, Taken, Twice,
)
from cartelship.tariffs import MOST_RANKS, good_tariff
from cartelship.words import good_name

MOST_SIDES = 6
MOST_MEN = 40
MOST_DEEDS = 120
LAST_DAY = 1000000
MOST_LIMIT = 1000000
# Deeds are numbered from 1 on, so this is the number of none.
NO_NUMBER = 0


# A page is never changed once it is made: books, their twins and their steps may so have it in common.
class Page:
    def __init__(self, side_names, man_table, cartel_table, deed_list, next_number):
        self.side_names = side_names
        self.man_table = man_table
        self.cartel_table = cartel_table
        self.deed_list = deed_list
        self.next_number = next_number


def empty_page():
    return Page([], {}, {}, [], 1)


def need_side(page, name):
    if name not in page.side_names:
        raise NoSide("there is no such side")


def need_man(page, name):
    if name not in page.man_table:
        raise NoMan("there is no such man")


def need_two_sides(page, one, other):
    need_side(page, one)
    need_side(page, other)
    if one == other:
        raise Own("both are one side")


def need_cartel(page, one, other):
    if pair_of(one, other) not in page.cartel_table:
        raise NoCartel("the two sides have no cartel")


def need_rank(rank):
    if not 0 <= rank < MOST_RANKS:
        raise BadRank("there is no such rank")


def need_day(day):
    if not 0 <= day <= LAST_DAY:
        raise BadDay("there is no such day")


def need_new_name(name, table):
    if not good_name(name):
        raise BadName("this is no name")
    if name in table:
        raise Taken("the name is taken")


def need_room(many, most):
    if many >= most:
        raise Full("there is no room for more")


def need_deed(page, number):
    if number not in [entry[0] for entry in page.deed_list]:
        raise NoDeed("no deed has this number")


def need_names(page, deed):
    if deed[0] == "swap":
        need_swap_names(page, deed)
        return
    need_man(page, deed[1])
    if deed[0] == "take":
        need_side(page, deed[2])
    if deed[0] == "rank":
        need_rank(deed[2])


def need_swap_names(page, deed):
    need_two_sides(page, deed[1], deed[2])
    need_cartel(page, deed[1], deed[2])
    names = men_named(deed)
    if not names:
        raise NoMen("nobody is exchanged")
    for name in names:
        need_man(page, name)
    if len(set(names)) != len(names):
        raise Twice("a man is named twice")


def do_or_break(muster, number, day, deed):
    try:
        do_deed(muster, day, deed)
    except CartelError:
        raise Breaks(number) from None


# The deed that was told just now, if there is one, is refused in its own name, any other one as broken.
def need_all_let(page, told):
    muster = Muster(page.man_table, page.cartel_table)
    for number, day, deed in page.deed_list:
        if number == told:
            do_deed(muster, day, deed)
        else:
            do_or_break(muster, number, day, deed)


def muster_on(page, last):
    muster = Muster(page.man_table, page.cartel_table)
    for number, day, deed in page.deed_list:
        if day <= last:
            do_deed(muster, day, deed)
    return muster


def place_of_deed(entry):
    return (entry[1], entry[0])


def with_deeds(page, entries, next_number):
    deed_list = sorted(entries, key=place_of_deed)
    return Page(page.side_names, page.man_table, page.cartel_table, deed_list, next_number)


def with_side(page, name):
    need_new_name(name, page.side_names)
    need_room(len(page.side_names), MOST_SIDES)
    return Page(page.side_names + [name], page.man_table, page.cartel_table, page.deed_list, page.next_number)


def with_man(page, name, side, rank):
    need_new_name(name, page.man_table)
    need_side(page, side)
    need_rank(rank)
    need_room(len(page.man_table), MOST_MEN)
    man_table = dict(page.man_table)
    man_table[name] = (side, rank)
    return Page(page.side_names, man_table, page.cartel_table, page.deed_list, page.next_number)


def with_cartel(page, one, other, worths, limit):
    need_two_sides(page, one, other)
    if len(worths) != MOST_RANKS or not good_tariff(worths):
        raise BadTariff("this is no tariff of six worths")
    if not 0 <= limit <= MOST_LIMIT:
        raise BadLimit("there is no such limit")
    cartel_table = dict(page.cartel_table)
    cartel_table[pair_of(one, other)] = (tuple(worths), limit)
    after = Page(page.side_names, page.man_table, cartel_table, page.deed_list, page.next_number)
    need_all_let(after, NO_NUMBER)
    return after


# Rows may tell a lesser number behind a greater one, so the next number is held above both.
def with_deed(page, number, day, deed):
    need_day(day)
    need_names(page, deed)
    need_room(len(page.deed_list), MOST_DEEDS)
    after = with_deeds(page, page.deed_list + [(number, day, deed)], max(page.next_number, number + 1))
    need_all_let(after, number)
    return after


def without_deed(page, number):
    need_deed(page, number)
    after = with_deeds(page, [entry for entry in page.deed_list if entry[0] != number], page.next_number)
    need_all_let(after, NO_NUMBER)
    return after


def with_new_day(page, number, day):
    need_deed(page, number)
    need_day(day)
    entries = [(entry[0], day, entry[2]) if entry[0] == number else entry for entry in page.deed_list]
    after = with_deeds(page, entries, page.next_number)
    need_all_let(after, NO_NUMBER)
    return after


def with_next(page, number):
    return Page(page.side_names, page.man_table, page.cartel_table, page.deed_list, number)
