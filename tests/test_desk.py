"""Point [18], and the interface of cartelship/desk.py."""

import random
import unittest

from cartelship.desk import Desk
from helper import CAMP, PlainBook, do, random_step

# A talk from the empty book on, each line with its answer.
TALK = (
    ("undo", "NoStep"), ("redo", "NoStep"), ("side north", "done"), ("side north", "Taken"), ("side south", "done"),
    ("side west", "done"), ("man tom north 2", "done"), ("man tom south 2", "Taken"), ("man ann nowhere 2", "NoSide"),
    ("man ann south 6", "BadRank"), ("man ann south 0", "done"), ("man bob south 0", "done"), ("man west west 5", "done"),
    ("cartel south south 1 2 4 8 16 32 3", "Own"), ("cartel south east 1 2 4 8 16 32 3", "NoSide"),
    ("cartel south north 0 2 4 8 16 32 3", "BadTariff"), ("cartel south north 1 2 4 8 16 33 3", "BadTariff"),
    ("cartel south north 1 2 4 8 16 32 1000001", "BadLimit"), ("cartel south north 1 2 4 8 16 32 3", "done"),
    ("stands tom 5", "free"), ("line tom 5", "-"), ("roll north south 5", "-"), ("account north south 5", "0"),
    ("fullest north south 5", "0 - / -"), ("fullest north west 5", "NoCartel"), ("account north west 5", "0"),
    ("on 5 take tom south", "deed 1"), ("on 5 take tom west", "Held"), ("on 4 take tom west", "Breaks 1"),
    ("on 5 take ann south", "Own"), ("on 5 word ann", "NotHeld"), ("on 5 free ann", "NotHeld"), ("on 5 flee ann", "NotHeld"),
    ("on 3 take bob north", "deed 2"), ("on 3 take ann north", "deed 3"), ("on 1000001 die tom", "BadDay"),
    ("on -1 die tom", "BadDay"), ("on -9999999999 die nobody", "BadDay"), ("on 6 die nobody", "NoMan"),
    ("on 6 take tom east", "NoSide"), ("on 6 rank tom 6", "BadRank"), ("on 4 rank tom 1", "deed 4"),
    ("roll south north 9", "ann bob"), ("roll north south 9", "tom"), ("roll north west 9", "-"),
    ("fullest north south 9", "2 tom / ann bob"), ("fullest south north 9", "2 ann bob / tom"),
    ("fullest south north 4", "0 - / -"), ("on 10 swap north south tom /", "deed 5"), ("account north south 10", "2"),
    ("account south north 10", "-2"), ("account south north 9", "0"), ("account south north -9", "0"),
    ("undo", "done"), ("account south north 10", "0"), ("redo", "done"), ("account south north 10", "-2"),
    ("on 11 swap north south / ann bob", "deed 6"), ("account north south 11", "0"), ("redo", "NoStep"),
    ("line tom 9", "4 1"), ("line tom 10", "4 1 5"), ("line bob 11", "2 6"), ("line west 11", "-"), ("stands tom 10", "free"),
    ("stands tom 9", "held"), ("stands tom -1", "free"), ("stands tom 9999999999", "free"), ("stands nobody 1", "NoMan"),
    ("strike 1", "Breaks 5"), ("strike 0", "NoDeed"), ("strike 7", "NoDeed"), ("redate 1 11", "Breaks 5"),
    ("redate 7 -3", "NoDeed"), ("redate 1 -3", "BadDay"), ("redate 1 1000001", "BadDay"), ("redate 1 6", "done"),
    ("cartel north south 1 2 4 8 16 32 1", "Breaks 5"), ("cartel north south 1 1 4 8 16 32 1", "done"),
    ("on 12 swap north south /", "NoMen"), ("on 12 swap north south tom / tom", "Twice"),
    ("on 12 swap north south nobody /", "NoMan"), ("on 12 swap north south tom /", "OffRoll"),
    ("on 12 swap north north tom /", "Own"), ("on 12 swap north west tom /", "NoCartel"),
    ("on 12 swap north east tom /", "NoSide"), ("roll north north 1", "Own"), ("roll north east 1", "NoSide"),
    ("on 12 take tom south", "deed 7"), ("on 12 rank tom 2", "deed 8"), ("on 13 swap south north / tom", "Uneven"),
    ("on 13 word tom", "deed 9"), ("stands tom 13", "word"), ("roll north south 13", "tom"), ("on 14 die tom", "deed 10"),
    ("stands tom 14", "gone"), ("on 15 rank tom 1", "Gone"), ("on 15 take tom west", "Gone"), ("strike 10", "done"),
    ("stands tom 14", "word"), ("on 15 flee west", "NotHeld"), ("on 0 die west", "deed 11"), ("line west 0", "11"),
)
# Nearly right.
NO_LINES = (
    "", " ", "  ", "what", "done", "side", "side ", "side  north", " side north", "side north ", "side North", "side n1",
    "side abcdefghi", "side a b", "Side north", "sides", "side -", "man", "man x north", "man x north -1", "man x north 01",
    "man x north 1 1", "man X north 1", "man x North 1", "man x north one", "man x north 10000000000", "man x  1",
    "cartel north south 1 2 4 8 16 32", "cartel north south 1 2 4 8 16 32 3 3", "cartel north south 1 2 4 8 16 32 -3",
    "cartel north south 1 2 4 8 16 -32 3", "cartel north 1 2 4 8 16 32 3", "cartel North south 1 2 4 8 16 32 3",
    "cartel north south 1 2 4 8 16 032 3", "cartel north south 1 2 4 8 16 32 10000000000", "take tom south",
    "5 take tom south", "on take tom south", "on 5", "on", "on 5 ", "on 5 take", "on 5 take tom", "on 5 take tom south x",
    "on 05 take tom south", "on -0 take tom south", "on -05 take tom south", "on - take tom south", "on --5 take tom south",
    "on +5 take tom south", "on 10000000000 die tom", "on -10000000000 die tom", "on 5 take Tom south", "on 5 word",
    "on 5 word tom south", "on 5 rank tom", "on 5 rank tom -1", "on 5 rank tom x", "on 5 rank tom 00", "on 5 rank 1 tom",
    "on 5 swap north south", "on 5 swap north south tom", "on 5 swap north south tom ann", "on 5 swap north /",
    "on 5 swap north south tom / ann / bob", "on 5 swap north south / /", "on 5 swap north south T /", "on 5 swap / north south",
    "on 5 swap north south tom/ann", "on 5 swap north south tom / -", "on 5 undo", "on 5 strike 1", "on 5 side x", "on 5 on 5 die tom",
    "strike", "strike -1", "strike x", "strike 01", "strike 1 1", "strike 10000000000", "redate", "redate 1", "redate -1 5",
    "redate 1 -0", "redate 1 x", "redate 1 5 5", "redate 1 05", "undo 1", "undo ", "redo x", "Undo", "UNDO",
    "stands", "stands tom", "stands tom 5 5", "stands Tom 5", "stands tom x", "stands tom -0", "stands tom 05",
    "stands tom 10000000000", "stands tom -10000000000", "stands 5 tom", "roll north south", "roll north 5",
    "roll north south x", "roll north south 5 5", "roll north South 5", "account north south", "account north south -00",
    "account north 5", "fullest north south", "fullest north", "fullest north south five", "line tom", "line 5",
    "line tom 5 5", "line tom tom", "deed 1 5 take tom south", "next 5", "word tom", "paper north south 5", "twin",
    "holder tom 5", "words tom 5", "sides", "men", "deeds", "upcoming", "may_serve tom 5", "rank_of tom 5", "begin", "tell",
)


def talked(lines):
    desk = Desk()
    return desk, [desk.say(line) for line in lines]


def as_line(step):
    if step[0] == "deed":
        day, deed = step[1:]
        if deed[0] == "swap":
            return " ".join(["on", str(day), *deed[:3], *deed[3], "/", *deed[4]])
        return " ".join(["on", str(day), *[str(part) for part in deed]])
    if step[0] == "cartel":
        return " ".join(["cartel", *step[1:3], *[str(worth) for worth in step[3]], str(step[4])])
    return " ".join([str(part) for part in step])


def as_answer(step, answer):
    return f"deed {answer}" if isinstance(answer, int) else answer


def shown(names):
    return " ".join([str(name) for name in names]) or "-"


def questions(plain, days):
    """Every line that asks, with its answer by the plain book."""
    for day in days:
        for name in [*plain.now["men"], "nobody", "red"]:
            yield f"stands {name} {day}", plain.stands(name, day)
            numbers = plain.line(name, day)
            yield f"line {name} {day}", numbers if isinstance(numbers, str) else shown(numbers)
        for one in [*plain.sides(), "ann"]:
            for other in [*plain.sides(), "nowhere"]:
                roll = plain.roll(one, other, day)
                yield f"roll {one} {other} {day}", roll if isinstance(roll, str) else shown(entry[0] for entry in roll)
                yield f"account {one} {other} {day}", str(plain.account(one, other, day))
                full = plain.fullest(one, other, day)
                answer = full if isinstance(full, str) else f"{full[0]} {shown(full[1])} / {shown(full[2])}"
                yield f"fullest {one} {other} {day}", answer


class Talk(unittest.TestCase):
    def test_line_by_line(self):
        desk = Desk()
        for place, (line, answer) in enumerate(TALK):
            with self.subTest(place=place, line=line):
                self.assertEqual(desk.say(line), answer)

    def test_every_refusal_that_a_line_can_meet(self):
        met = {answer.split(" ")[0] for line, answer in TALK}
        for why in ("Taken", "NoSide", "NoMan", "BadRank", "Own", "BadTariff", "BadLimit", "BadDay", "NoCartel", "NoMen",
                    "Twice", "Gone", "Held", "NotHeld", "OffRoll", "Uneven", "NoDeed", "NoStep", "Breaks"):
            self.assertIn(why, met)

    def test_full(self):
        desk, answers = talked([f"side {sign}" for sign in "abcdefg"])
        self.assertEqual(answers, ["done"] * 6 + ["Full"])
        answers = [desk.say(f"man x{one}{other} a 0") for one in "abcd" for other in "abcdefghij"]
        self.assertEqual(answers, ["done"] * 40)
        self.assertEqual(desk.say("man y a 0"), "Full")
        answers = [desk.say(f"on {number % 9} rank xaa {number % 6}") for number in range(120)]
        self.assertEqual(answers, [f"deed {number}" for number in range(1, 121)])
        self.assertEqual(desk.say("on 5 die xaa"), "Full")
        self.assertEqual((desk.say("strike 50"), desk.say("on 9 die xaa")), ("done", "deed 121"))

    def test_what_is_no_line(self):
        for line in NO_LINES:
            with self.subTest(line=line):
                self.assertEqual(Desk().say(line), "what")

    def test_neither_changes_anything(self):
        lines = [line for line, answer in TALK] + ["undo", "undo"]
        answers = talked(lines)[1]
        desk = Desk()
        for line, answer in zip(lines, answers):
            for wrong in NO_LINES[::3]:
                self.assertEqual(desk.say(wrong), "what")
            self.assertEqual(desk.say(line), answer)
        for wrong in NO_LINES + ("side north", "strike 99", "on 12 take tom nowhere", "stands tom 3", "roll north north 3"):
            desk.say(wrong)
        self.assertEqual([desk.say("redo") for turn in range(3)], ["done", "done", "NoStep"])

    def test_desks_have_books_of_their_own(self):
        one, other = Desk(), Desk()
        self.assertEqual(one.say("side north"), "done")
        self.assertEqual(other.say("undo"), "NoStep")
        self.assertEqual(other.say("side north"), "done")
        self.assertEqual(one.say("undo"), "done")
        self.assertEqual(other.say("side north"), "Taken")

    def test_the_order_of_names(self):
        desk = talked(["side b", "side a", "man x b 5", "on 0 take x a"])[0]
        self.assertEqual(desk.say("cartel b a 1 1 1 1 1 1 1"), "done")
        self.assertEqual(desk.say("cartel a b 1 1 1 1 1 1 0"), "done")
        self.assertEqual(desk.say("on 0 swap b a x /"), "Uneven")
        self.assertEqual(desk.say("undo"), "done")
        self.assertEqual(desk.say("on 0 swap a b / x"), "deed 2")


class AgainstPlain(unittest.TestCase):
    def test_steps_and_questions(self):
        for seed in range(25):
            source = random.Random(6000 + seed)
            desk, plain = Desk(), PlainBook()
            for step in CAMP:
                do(plain, step)
                self.assertEqual(desk.say(as_line(step)), "done")
            for turn in range(50):
                step = random_step(source, plain)
                with self.subTest(seed=seed, turn=turn, step=step):
                    self.assertEqual(desk.say(as_line(step)), as_answer(step, do(plain, step)))
            for line, answer in questions(plain, (-9999999999, -1, 0, 4, 8, 12, 1000000, 9999999999)):
                with self.subTest(seed=seed, line=line):
                    self.assertEqual(desk.say(line), answer)


if __name__ == "__main__":
    unittest.main()
