"""What several tests need: tariffs, rolls, all that can be told of a roll by going through it man by man, and a
second, plain book to hold the book against."""

import itertools
import random
import re
import unittest

from cartelship import errors

# Every small tariff whose worths lie close together, where a slip in one rank shows soonest.
SMALL_TARIFFS = tuple(
    [one * head for head in (1, *tail)]
    for one in (1, 2, 3)
    for tail in ((), (1,), (2,), (3,), (5,), (1, 1), (1, 3), (2, 2), (2, 4), (2, 6), (3, 3), (3, 6), (4, 12))
)


def random_tariff(source, ranks=None, greatest=10000):
    ranks = ranks or source.randint(1, 6)
    worths = [source.choice([1, 1, 1, 2, 3, 5, 10, source.randint(1, greatest)])]
    while len(worths) < ranks:
        most = greatest // worths[-1]
        worths.append(worths[-1] * min(most, source.choice([1, 2, 2, 3, 4, 5, 7, 10, source.randint(1, most)])))
    return worths


def random_roll(source, ranks, most=60):
    # Rolls with few men have gaps, rolls with many have none: both kinds are wanted, and both within one roll.
    bound = source.choice([1, 2, 3, 6, most])
    return [source.choice([0, source.randint(0, bound), source.randint(0, most), bound]) for rank in range(ranks)]


def random_cases(seed, many, rolls=2, greatest=10000):
    source = random.Random(seed)
    for turn in range(many):
        worths = random_tariff(source, greatest=greatest)
        yield (worths, *[random_roll(source, len(worths)) for roll in range(rolls)])


def gappy_cases(seed, many, times=(2, 3, 4, 5)):
    """Six ranks and men too few to make up one of the next rank, so that many weights between can not be put up."""
    source = random.Random(seed)
    for turn in range(many):
        worths = [source.choice([1, 2, 3])]
        while len(worths) < 6:
            worths.append(worths[-1] * source.choice(times))
        # One roll has some men of low ranks, the other has more of them and fewer above.
        one = [source.randint(0, 2) for rank in range(5)] + [source.randint(0, 9)]
        other = [source.choice([0, 1, 2, 3, 5, 9]) for rank in range(4)] + [source.randint(0, 60), 0]
        yield (worths, *source.choice([(one, other), (other, one)]))


def small_rolls(ranks, most):
    return [list(counts) for counts in itertools.product(range(most + 1), repeat=ranks)]


def all_parts(counts):
    return [list(part) for part in itertools.product(*[range(count + 1) for count in counts])]


def weigh(worths, counts):
    return sum(worth for worth, count in zip(worths, counts) for man in range(count))


def sums_table(worths, counts):
    """A number whose bit of each place is 1 where the roll can put up a weight of that many, man by man."""
    table = 1
    for worth, count in zip(worths, counts):
        for man in range(count):
            table |= table << worth
    return table


def in_table(table, many):
    return many >= 0 and table >> many & 1 == 1


def fullest_of_tables(one, other):
    return (one & other).bit_length() - 1


# From here on: a second, plain reading of the book. It keeps no state of a man but the story of what befell him, and
# seeks each answer by going back through that story. What is refused it answers by the name of the class.

MAN_QUESTIONS = ("stands", "holder", "words", "rank_of", "may_serve", "line")
PAIR_QUESTIONS = ("roll", "account", "fullest")


def holder_in(story):
    exchanged = []
    for what, side, day in reversed(story):
        if what == "swapped":
            exchanged.append(side)
        if what == "take":
            return "" if side in exchanged else side
        if what in ("word", "home", "die"):
            return ""
    return ""


def word_in(story, side):
    for what, other, day in reversed(story):
        if what == "die" or other == side and what in ("take", "swapped"):
            return False
        if other == side and what == "word":
            return True
    return False


def since_in(story, side):
    return [day for what, other, day in story if what == "take" and other == side][-1]


class PlainCourse:
    """Deeds gone through in their order, up to a day; `refused` is the first one's (number, name of the class)."""

    def __init__(self, now, last=10 ** 30):
        self.origins = now["men"]
        self.cartels = now["cartels"]
        self.stories = {name: [] for name in self.origins}
        self.went = []
        self.refused = None
        for number, day, deed in sorted(now["deeds"], key=lambda entry: (entry[1], entry[0])):
            if day <= last and self.refused is None:
                why = self.why_not(deed)
                if why:
                    self.refused = (number, why)
                else:
                    self.befall(day, deed)

    def grade(self, name):
        return ([self.origins[name][1]] + [rank for what, rank, day in self.stories[name] if what == "rank"])[-1]

    def dead(self, name):
        return any(what == "die" for what, side, day in self.stories[name])

    def on_roll(self, name, one, other):
        story = self.stories[name]
        return self.origins[name][0] == one and (holder_in(story) == other or word_in(story, other))

    def account(self, one, other, more=()):
        if frozenset((one, other)) not in self.cartels:
            return 0
        worths = self.cartels[frozenset((one, other))][0]
        went = [(worths[grade], self.origins[name][0]) for name, grade, pair in self.went + list(more)
                if pair == {one, other}]
        return sum(worth for worth, home in went if home == one) - sum(worth for worth, home in went if home == other)

    def leaving(self, deed):
        return [(name, self.grade(name), {deed[1], deed[2]}) for name in deed[3] + deed[4]]

    def why_not(self, deed):
        if deed[0] == "swap":
            return self.why_no_swap(*deed[1:])
        name = deed[1]
        if deed[0] == "take" and deed[2] == self.origins[name][0]:
            return "Own"
        if self.dead(name):
            return "Gone"
        held = holder_in(self.stories[name]) != ""
        if deed[0] == "take":
            return "Held" if held else ""
        return "NotHeld" if deed[0] in ("word", "free", "flee") and not held else ""

    def why_no_swap(self, one, other, ones, others):
        if not all(self.on_roll(name, one, other) for name in ones):
            return "OffRoll"
        if not all(self.on_roll(name, other, one) for name in others):
            return "OffRoll"
        limit = self.cartels[frozenset((one, other))][1]
        then = self.account(one, other, self.leaving(("swap", one, other, ones, others)))
        return "" if -limit <= then <= limit else "Uneven"

    def befall(self, day, deed):
        if deed[0] == "swap":
            self.went += self.leaving(deed)
            for name in deed[3]:
                self.stories[name].append(("swapped", deed[2], day))
            for name in deed[4]:
                self.stories[name].append(("swapped", deed[1], day))
            return
        story = self.stories[deed[1]]
        if deed[0] in ("take", "rank"):
            story.append((deed[0], deed[2], day))
        elif deed[0] == "die":
            story.append(("die", "", day))
        else:
            story.append(("word" if deed[0] == "word" else "home", holder_in(story), day))

    def roll(self, one, other):
        men = sorted(name for name in self.origins if self.on_roll(name, one, other))
        entries = [(name, self.grade(name), since_in(self.stories[name], other), word_in(self.stories[name], other))
                   for name in men]
        return sorted(sorted(entries, key=lambda entry: entry[2]), key=lambda entry: entry[1], reverse=True)


class PlainBook:
    def __init__(self):
        self.now = {"sides": [], "men": {}, "cartels": {}, "deeds": [], "next": 1}
        self.undoable = []
        self.redoable = []
        self.courses = {}

    def put(self, now):
        self.now = now
        self.courses = {}
        return "done"

    def change(self, **parts):
        self.undoable.append(self.now)
        self.redoable = []
        return self.put({**self.now, **parts})

    def undo(self):
        if not self.undoable:
            return "NoStep"
        self.redoable.append(self.now)
        return self.put(self.undoable.pop())

    def redo(self):
        if not self.redoable:
            return "NoStep"
        self.undoable.append(self.now)
        return self.put(self.redoable.pop())

    def side(self, name):
        if not re.fullmatch("[a-z]{1,8}", name):
            return "BadName"
        if name in self.now["sides"]:
            return "Taken"
        return "Full" if len(self.now["sides"]) == 6 else self.change(sides=self.now["sides"] + [name])

    def man(self, name, side, rank):
        if not re.fullmatch("[a-z]{1,8}", name):
            return "BadName"
        if name in self.now["men"]:
            return "Taken"
        if side not in self.now["sides"]:
            return "NoSide"
        if rank not in range(6):
            return "BadRank"
        return "Full" if len(self.now["men"]) == 40 else self.change(men={**self.now["men"], name: (side, rank)})

    def why_no_pair(self, one, other):
        if one not in self.now["sides"] or other not in self.now["sides"]:
            return "NoSide"
        return "Own" if one == other else ""

    def broken(self, **parts):
        refused = PlainCourse({**self.now, **parts}).refused
        return f"Breaks {refused[0]}" if refused else ""

    def cartel(self, one, other, worths, limit):
        if self.why_no_pair(one, other):
            return self.why_no_pair(one, other)
        if len(worths) != 6 or not all(1 <= worth <= 10000 for worth in worths):
            return "BadTariff"
        if any(worth % ahead for ahead, worth in zip(worths, worths[1:])):
            return "BadTariff"
        if not 0 <= limit <= 10 ** 6:
            return "BadLimit"
        cartels = {**self.now["cartels"], frozenset((one, other)): (tuple(worths), limit)}
        return self.broken(cartels=cartels) or self.change(cartels=cartels)

    def why_unnamed(self, deed):
        if deed[0] == "swap":
            word, one, other, ones, others = deed
            if self.why_no_pair(one, other):
                return self.why_no_pair(one, other)
            if frozenset((one, other)) not in self.now["cartels"]:
                return "NoCartel"
            if not ones + others:
                return "NoMen"
            if not set(ones + others) <= set(self.now["men"]):
                return "NoMan"
            return "Twice" if len(set(ones + others)) < len(ones + others) else ""
        if deed[1] not in self.now["men"]:
            return "NoMan"
        if deed[0] == "take" and deed[2] not in self.now["sides"]:
            return "NoSide"
        return "BadRank" if deed[0] == "rank" and deed[2] not in range(6) else ""

    def tell(self, day, deed):
        if not 0 <= day <= 10 ** 6:
            return "BadDay"
        if self.why_unnamed(deed):
            return self.why_unnamed(deed)
        if len(self.now["deeds"]) == 120:
            return "Full"
        number = self.now["next"]
        deeds = self.now["deeds"] + [(number, day, deed)]
        refused = PlainCourse({**self.now, "deeds": deeds}).refused
        if refused:
            return refused[1] if refused[0] == number else f"Breaks {refused[0]}"
        self.change(deeds=deeds, next=number + 1)
        return number

    def strike(self, number):
        deeds = [entry for entry in self.now["deeds"] if entry[0] != number]
        if len(deeds) == len(self.now["deeds"]):
            return "NoDeed"
        return self.broken(deeds=deeds) or self.change(deeds=deeds)

    def redate(self, number, day):
        deeds = [entry for entry in self.now["deeds"] if entry[0] != number]
        if len(deeds) == len(self.now["deeds"]):
            return "NoDeed"
        if not 0 <= day <= 10 ** 6:
            return "BadDay"
        deeds += [(number, day, deed) for each, old, deed in self.now["deeds"] if each == number]
        return self.broken(deeds=deeds) or self.change(deeds=deeds)

    def sides(self):
        return sorted(self.now["sides"])

    def men(self):
        return sorted((name, *origin) for name, origin in self.now["men"].items())

    def cartels(self):
        return sorted((*sorted(pair), *terms) for pair, terms in self.now["cartels"].items())

    def deeds(self):
        return sorted(self.now["deeds"], key=lambda entry: (entry[1], entry[0]))

    def upcoming(self):
        return self.now["next"]

    def course(self, day):
        if day not in self.courses:
            self.courses[day] = PlainCourse(self.now, day)
        return self.courses[day]

    def stands(self, man, day):
        if man not in self.now["men"]:
            return "NoMan"
        if self.course(day).dead(man):
            return "gone"
        if self.holder(man, day):
            return "held"
        return "word" if self.words(man, day) else "free"

    def holder(self, man, day):
        return holder_in(self.course(day).stories[man]) if man in self.now["men"] else "NoMan"

    def words(self, man, day):
        if man not in self.now["men"]:
            return "NoMan"
        return [side for side in self.sides() if word_in(self.course(day).stories[man], side)]

    def rank_of(self, man, day):
        return self.course(day).grade(man) if man in self.now["men"] else "NoMan"

    def may_serve(self, man, day):
        return self.stands(man, day) == "free" if man in self.now["men"] else "NoMan"

    def line(self, man, day):
        if man not in self.now["men"]:
            return "NoMan"
        return [number for number, on, deed in self.deeds() if on <= day
                and (man in deed[3] + deed[4] if deed[0] == "swap" else man == deed[1])]

    def roll(self, one, other, day):
        return self.why_no_pair(one, other) or self.course(day).roll(one, other)

    def account(self, one, other, day):
        return self.why_no_pair(one, other) or self.course(day).account(one, other)

    def fullest(self, one, other, day):
        if self.why_no_pair(one, other):
            return self.why_no_pair(one, other)
        if frozenset((one, other)) not in self.now["cartels"]:
            return "NoCartel"
        worths = self.now["cartels"][frozenset((one, other))][0]
        ours, theirs = self.roll(one, other, day), self.roll(other, one, day)
        tables = [sums_table([worths[entry[1]] for entry in roll], [1] * len(roll)) for roll in (ours, theirs)]
        many = fullest_of_tables(*tables)
        return (many, first_who_make(worths, ours, many), first_who_make(worths, theirs, many))


def first_who_make(worths, roll, many):
    """A roll stands from the highest rank down, so whoever still fits goes."""
    names = []
    for name, rank, since, word in roll:
        if worths[rank] <= many:
            many -= worths[rank]
            names.append(name)
    return names


def outcome(call, *handed):
    """What a call of either book answers, or the name of the class of its refusal."""
    try:
        answer = call(*handed)
    except errors.Breaks as refusal:
        return f"Breaks {refusal.number}"
    except errors.CartelError as refusal:
        return type(refusal).__name__
    return "done" if answer is None else answer


def do(book, step):
    """One step, a tuple of its word and what it hands in, done with either book."""
    if step[0] == "deed" and isinstance(book, PlainBook):
        return book.tell(*step[1:])
    if step[0] == "deed":
        day, deed = step[1:]
        handed = [list(part) if isinstance(part, tuple) else part for part in deed[1:]]
        return outcome(getattr(book, deed[0]), day, *handed)
    return outcome(getattr(book, step[0]), *step[1:])


def held_in(book):
    return (book.sides(), book.men(), book.cartels(), book.deeds(), book.upcoming())


def days_around(book):
    near = {day + off for number, day, deed in book.deeds() for off in (-1, 0, 1)}
    return sorted(near | {-10 ** 40, -1, 0, 10 ** 6, 10 ** 40})


def told(book, days):
    """All that can be asked of either book about these days, but the papers, of which many are right."""
    answers = {"held": held_in(book)}
    for day in days:
        for name, side, rank in book.men():
            for question in MAN_QUESTIONS:
                answers[question, name, day] = outcome(getattr(book, question), name, day)
        for one, other in itertools.permutations(book.sides(), 2):
            for question in PAIR_QUESTIONS:
                answers[question, one, other, day] = outcome(getattr(book, question), one, other, day)
    return answers


def steps_of(book):
    """What the book holds after each undoing back to the first one, and after each doing again."""
    back, forth = [], []
    other = book.twin()
    while outcome(other.undo) == "done":
        back.append(held_in(other))
    other = book.twin()
    while outcome(other.redo) == "done":
        forth.append(held_in(other))
    return (back, forth)


def plain_steps_of(plain):
    def shown(now):
        other = PlainBook()
        other.put(now)
        return held_in(other)
    return ([shown(now) for now in reversed(plain.undoable)], [shown(now) for now in reversed(plain.redoable)])


def whole(book):
    return (told(book, days_around(book)), steps_of(book))


class BookCase(unittest.TestCase):
    def assertRefused(self, book, why, step):
        """The step is refused for this, and all that can be asked, undone and done again stays as it was."""
        with self.subTest(step=step, why=why):
            before = whole(book)
            self.assertEqual(do(book, step), why)
            self.assertEqual(whole(book), before)


def random_swap(source, plain, day, slips):
    pairs = [(one, other) for one, other in itertools.permutations(plain.sides(), 2)
             if source.random() < slips or frozenset((one, other)) in plain.now["cartels"]]
    one, other = source.choice(pairs)
    lists = []
    for roll in (plain.roll(one, other, day), plain.roll(other, one, day)):
        names = [entry[0] for entry in roll]
        lists.append(source.sample(names, source.randint(min(1, len(names)), len(names))))
    if source.random() < slips:
        source.choice(lists).append(source.choice([*plain.now["men"], "nobody"]))
    return ("swap", one, other, tuple(lists[0]), tuple(lists[1]))


def random_deed(source, plain, day, slips=0.1):
    """A deed that is often let: what it needs is looked up on its day, with some slips."""
    if source.random() < 0.25:
        return random_swap(source, plain, day, slips)
    name = source.choice(list(plain.now["men"]))
    way = plain.stands(name, day)
    fitting = {"free": ["take"] * 8 + ["rank", "rank", "die"], "word": ["take", "take", "rank"], "gone": ["take", "rank"],
               "held": ["word", "word", "word", "free", "flee", "rank", "die"]}[way]
    kind = source.choice(["take", "word", "free", "flee", "rank", "die"] if source.random() < slips else fitting)
    if kind == "take":
        others = [side for side in plain.sides() if side != plain.now["men"][name][0]]
        return ("take", name, source.choice(plain.sides() if source.random() < slips else others))
    if kind == "rank":
        return ("rank", name, source.choice([0, 1, 2, 3, 4, 5, 5, 0, 6 if source.random() < slips else 4]))
    return (kind, name)


def random_step(source, plain, last_day=12):
    roll = source.random()
    if roll < 0.68:
        day = source.randint(0, last_day)
        return ("deed", day, random_deed(source, plain, day))
    number = source.randint(0, plain.upcoming())
    if roll < 0.74:
        return ("strike", number)
    if roll < 0.84:
        return ("redate", number, source.choice([-1, *range(last_day + 1), 10 ** 6, 10 ** 6 + 1]))
    if roll < 0.90:
        one, other = source.sample(plain.sides(), 2)
        return ("cartel", one, other, random_tariff(source, 6, 12), source.choice([0, 3, 8, 20, 60]))
    return source.choice([("undo",), ("undo",), ("redo",), ("redo",), ("redo",)])


CAMP = (
    ("side", "red"), ("side", "blue"), ("side", "gray"),
    ("man", "ann", "red", 0), ("man", "bob", "red", 1), ("man", "cid", "red", 3),
    ("man", "dan", "blue", 0), ("man", "eve", "blue", 1), ("man", "fay", "blue", 2), ("man", "gus", "gray", 5),
    # A man who is called like a side.
    ("man", "blue", "gray", 2),
    ("cartel", "red", "blue", [1, 2, 4, 4, 8, 16], 6), ("cartel", "gray", "blue", [1, 1, 3, 6, 6, 12], 20),
)


def camp(book):
    """Three sides, eight men, two cartels, no deed yet."""
    for step in CAMP:
        assert do(book, step) == "done", step
    return book


# A second reading of rows, by patterns.
NAME = "([a-z]{1,8})"
NUMBER = "(0|[1-9][0-9]{0,9})"
ROW_PATTERNS = {
    "side": f"side {NAME}",
    "man": f"man {NAME} {NAME} {NUMBER}",
    "cartel": f"cartel {NAME} {NAME}" + f" {NUMBER}" * 7,
    "deed": f"deed {NUMBER} {NUMBER} ([a-z]+ .*)",
    "next": f"next {NUMBER}",
}
DEED_PATTERNS = {
    "take": f"(take) {NAME} {NAME}",
    "other": f"(word|free|flee|die) {NAME}",
    "rank": f"(rank) {NAME} {NUMBER}",
    "swap": f"(swap) {NAME} {NAME}((?: [a-z]{{1,8}})*) /((?: [a-z]{{1,8}})*)",
}


def plain_deed(text):
    for kind, pattern in DEED_PATTERNS.items():
        found = re.fullmatch(pattern, text)
        if found and kind == "swap":
            return (*found.groups()[:3], tuple(found[4].split()), tuple(found[5].split()))
        if found:
            return tuple(int(part) if part.isdigit() else part for part in found.groups())
    return None


def plain_deed_row(plain, number, day, text):
    deed = plain_deed(text)
    entries = plain.deeds()
    if deed is None or number == 0 or number in [entry[0] for entry in entries]:
        return False
    if entries and (entries[-1][1], entries[-1][0]) > (day, number):
        return False
    upcoming = max(plain.upcoming(), number + 1)
    plain.now = {**plain.now, "next": number}
    done = plain.tell(day, deed) == number
    plain.put({**plain.now, "next": upcoming})
    return done


def plain_row(plain, kind, groups):
    handed = [int(part) if part.isdigit() else part for part in groups]
    if kind == "side":
        return handed[0] > max(plain.sides(), default="") and plain.side(*handed) == "done"
    if kind == "man":
        return handed[0] > max(plain.now["men"], default="") and plain.man(*handed) == "done"
    if kind == "cartel":
        one, other, *worths, limit = handed
        late = ([("", "")] + [each[:2] for each in plain.cartels()])[-1] < (one, other)
        return late and one < other and plain.cartel(one, other, worths, limit) == "done"
    if kind == "deed":
        return plain_deed_row(plain, *handed)
    plain.put({**plain.now, "next": max(handed[0], plain.upcoming())})
    return plain.upcoming() == handed[0]


def plain_read(rows):
    """A plain book with nothing to undo, or the place of the first wrong row."""
    plain = PlainBook()
    order = list(ROW_PATTERNS)
    reached = 0
    for at, row in enumerate(rows):
        kinds = [kind for kind in order[reached:] if re.fullmatch(ROW_PATTERNS[kind], row)]
        if not kinds or not plain_row(plain, kinds[0], re.fullmatch(ROW_PATTERNS[kinds[0]], row).groups()):
            return at
        reached = order.index(kinds[0]) if kinds[0] != "next" else len(order)
    if reached < len(order):
        return len(rows)
    plain.undoable = []
    return plain
