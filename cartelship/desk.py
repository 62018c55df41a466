"""The desk: a book that is told and asked by lines of words."""

from cartelship.book import Book
from cartelship.errors import CartelError
from cartelship.lines import STROKE, read_line
from cartelship.words import join_words

DONE = "done"
NO_LINE = "what"
NOTHING = "-"


def told(parts):
    return join_words(parts) if parts else NOTHING


def add_side(book, parts):
    book.side(parts[1])
    return DONE


def add_man(book, parts):
    book.man(parts[1], parts[2], parts[3])
    return DONE


def set_cartel(book, parts):
    book.cartel(parts[1], parts[2], parts[3:-1], parts[-1])
    return DONE


def tell_deed(book, parts):
    return join_words(["deed", book.tell(parts[1], parts[2])])


def strike_deed(book, parts):
    book.strike(parts[1])
    return DONE


def redate_deed(book, parts):
    book.redate(parts[1], parts[2])
    return DONE


def undo_step(book, parts):
    book.undo()
    return DONE


def redo_step(book, parts):
    book.redo()
    return DONE


def answer_stands(book, parts):
    return book.stands(parts[1], parts[2])


def answer_roll(book, parts):
    return told([entry[0] for entry in book.roll(parts[1], parts[2], parts[3])])


def answer_account(book, parts):
    return str(book.account(parts[1], parts[2], parts[3]))


def answer_fullest(book, parts):
    exchange = book.fullest(parts[1], parts[2], parts[3])
    return join_words([exchange[0], told(exchange[1]), STROKE, told(exchange[2])])


def answer_line(book, parts):
    return told(book.line(parts[1], parts[2]))


ANSWERS = {
    "side": add_side,
    "man": add_man,
    "cartel": set_cartel,
    "on": tell_deed,
    "strike": strike_deed,
    "redate": redate_deed,
    "undo": undo_step,
    "redo": redo_step,
    "stands": answer_stands,
    "roll": answer_roll,
    "account": answer_account,
    "fullest": answer_fullest,
    "line": answer_line,
}


def answer(book, parts):
    answering = ANSWERS[parts[0]]
    return answering(book, parts)


class Desk:
    def __init__(self):
        self.book = Book()

    def say(self, line):
        parts = read_line(line)
        if parts is None:
            return NO_LINE
        try:
            return answer(self.book, parts)
        except CartelError as refusal:
            return refusal.spoken()
