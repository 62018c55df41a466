"""The book of all deeds: what is told to it, what can be undone, and what it tells of any day."""

from cartelship.deeds import account_of, holder_of, men_named, pair_of, roll_of, way_of, words_of
from cartelship.errors import NoStep
from cartelship.pages import (
    empty_page, muster_on, need_cartel, need_man, need_two_sides, with_cartel, with_deed, with_man, with_new_day,
    with_side, without_deed,
)
from cartelship.papers import paper
from cartelship.rolls import names_of_part, rank_counts
from cartelship.sums import fullest, put_up


class Book:
    def __init__(self):
        self.page = empty_page()
        self.past = []
        self.future = []

    # The page that follows is made ahead of this, so what is refused never comes so far.
    def turn_to(self, page):
        self.past.append(self.page)
        self.future = []
        self.page = page

    def undo(self):
        if not self.past:
            raise NoStep("there is nothing to undo")
        self.future.append(self.page)
        self.page = self.past.pop()

    def redo(self):
        if not self.future:
            raise NoStep("there is nothing to do again")
        self.past.append(self.page)
        self.page = self.future.pop()

    def twin(self):
        other = Book()
        other.page = self.page
        other.past = list(self.past)
        other.future = list(self.future)
        return other

    def side(self, name):
        self.turn_to(with_side(self.page, name))

    def man(self, name, side, rank):
        self.turn_to(with_man(self.page, name, side, rank))

    def cartel(self, one, other, worths, limit):
        self.turn_to(with_cartel(self.page, one, other, worths, limit))

    def strike(self, number):
        self.turn_to(without_deed(self.page, number))

    def redate(self, number, day):
        self.turn_to(with_new_day(self.page, number, day))

    def tell(self, day, deed):
        number = self.page.next_number
        self.turn_to(with_deed(self.page, number, day, deed))
        return number

    def take(self, day, man, side):
        return self.tell(day, ("take", man, side))

    def word(self, day, man):
        return self.tell(day, ("word", man))

    def free(self, day, man):
        return self.tell(day, ("free", man))

    def flee(self, day, man):
        return self.tell(day, ("flee", man))

    def die(self, day, man):
        return self.tell(day, ("die", man))

    def rank(self, day, man, rank):
        return self.tell(day, ("rank", man, rank))

    def swap(self, day, one, other, ones, others):
        return self.tell(day, ("swap", one, other, tuple(ones), tuple(others)))

    def sides(self):
        return sorted(self.page.side_names)

    def men(self):
        return sorted([(name, origin[0], origin[1]) for name, origin in self.page.man_table.items()])

    def cartels(self):
        return sorted([(pair[0], pair[1], terms[0], terms[1]) for pair, terms in self.page.cartel_table.items()])

    def deeds(self):
        return list(self.page.deed_list)

    def upcoming(self):
        return self.page.next_number

    def man_on(self, man, day):
        need_man(self.page, man)
        return muster_on(self.page, day).roster[man]

    def stands(self, man, day):
        return way_of(self.man_on(man, day))

    def holder(self, man, day):
        return holder_of(self.man_on(man, day))

    def words(self, man, day):
        return words_of(self.man_on(man, day))

    def rank_of(self, man, day):
        return self.man_on(man, day).grade

    def may_serve(self, man, day):
        return self.stands(man, day) == "free"

    def line(self, man, day):
        need_man(self.page, man)
        up_to_day = [entry for entry in self.page.deed_list if entry[1] <= day]
        return [entry[0] for entry in up_to_day if man in men_named(entry[2])]

    def roll(self, one, other, day):
        need_two_sides(self.page, one, other)
        return roll_of(muster_on(self.page, day), one, other)

    def account(self, one, other, day):
        need_two_sides(self.page, one, other)
        return account_of(muster_on(self.page, day), one, other)

    def worths_between(self, one, other):
        need_two_sides(self.page, one, other)
        need_cartel(self.page, one, other)
        return list(self.page.cartel_table[pair_of(one, other)][0])

    def fullest(self, one, other, day):
        worths = self.worths_between(one, other)
        ours = self.roll(one, other, day)
        theirs = self.roll(other, one, day)
        our_counts = rank_counts(ours, len(worths))
        their_counts = rank_counts(theirs, len(worths))
        many = fullest(worths, our_counts, their_counts)
        our_names = names_of_part(ours, put_up(worths, our_counts, many))
        their_names = names_of_part(theirs, put_up(worths, their_counts, many))
        return (many, our_names, their_names)

    def paper(self, one, other, day):
        worths = self.worths_between(one, other)
        our_counts = rank_counts(self.roll(one, other, day), len(worths))
        their_counts = rank_counts(self.roll(other, one, day), len(worths))
        return paper(worths, our_counts, their_counts)
