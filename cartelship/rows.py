"""A book written as rows, and rows read to a book."""

from cartelship.book import Book
from cartelship.errors import BadRow, CartelError
from cartelship.lines import deed_words, read_row
from cartelship.pages import empty_page, with_cartel, with_deed, with_man, with_next, with_side
from cartelship.words import join_words

KINDS = ("side", "man", "cartel", "deed", "next")


def book_rows(book):
    rows = [["side", name] for name in book.sides()]
    rows.extend([["man", name, side, rank] for name, side, rank in book.men()])
    rows.extend([["cartel", one, other] + list(worths) + [limit] for one, other, worths, limit in book.cartels()])
    rows.extend([["deed", number, day] + deed_words(deed) for number, day, deed in book.deeds()])
    rows.append(["next", book.upcoming()])
    return [join_words(row) for row in rows]


# Each row stands behind the one ahead where this is greater, and none stands behind the next one: so the order of
# kinds, names and deeds is asked for at once.
def place_of_row(parts):
    at = KINDS.index(parts[0])
    if parts[0] == "cartel":
        return (at, parts[1], parts[2])
    if parts[0] == "deed":
        return (at, parts[2], parts[1])
    if parts[0] == "next":
        return (at,)
    return (at, parts[1])


# What no refusal of the book sees.
def fits(page, parts):
    if parts[0] == "cartel":
        return parts[1] < parts[2]
    if parts[0] == "deed":
        return parts[1] > 0 and parts[1] not in [entry[0] for entry in page.deed_list]
    if parts[0] == "next":
        return parts[1] >= page.next_number
    return True


def page_behind(page, parts):
    if parts[0] == "side":
        return with_side(page, parts[1])
    if parts[0] == "man":
        return with_man(page, parts[1], parts[2], parts[3])
    if parts[0] == "cartel":
        return with_cartel(page, parts[1], parts[2], parts[3:-1], parts[-1])
    if parts[0] == "deed":
        return with_deed(page, parts[1], parts[2], parts[3])
    return with_next(page, parts[1])


def page_or_bad_row(page, parts, at):
    try:
        return page_behind(page, parts)
    except CartelError:
        raise BadRow(at) from None


def read_book(rows):
    page = empty_page()
    ahead = ()
    for at, row in enumerate(rows):
        parts = read_row(row)
        if parts is None or place_of_row(parts) <= ahead or not fits(page, parts):
            raise BadRow(at)
        page = page_or_bad_row(page, parts, at)
        ahead = place_of_row(parts)
    if ahead != (KINDS.index("next"),):
        raise BadRow(len(rows))
    # The page is put into a new book at once, so that there is nothing to undo.
    book = Book()
    book.page = page
    return book
