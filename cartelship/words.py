"""Names, numbers and days as words, and the rows that words stand in."""

LETTERS = "abcdefghijklmnopqrstuvwxyz"
FIGURES = "0123456789"
MOST_LETTERS = 8
MOST_FIGURES = 10


# Python's own isalpha, islower and isdigit let in letters and figures of other scripts.
def all_among(text, signs):
    return all([sign in signs for sign in text])


def good_name(text):
    return 1 <= len(text) <= MOST_LETTERS and all_among(text, LETTERS)


# None stands for a word that is no number: 0 is one.
def read_number(word):
    if not 1 <= len(word) <= MOST_FIGURES or not all_among(word, FIGURES):
        return None
    if word[0] == "0" and word != "0":
        return None
    return int(word)


# Apart from read_number, as only a day at the desk may lie below 0.
def read_day(word):
    if not word.startswith("-"):
        return read_number(word)
    number = read_number(word[1:])
    if number is None or number == 0:
        return None
    return -number


# A blank too many leaves an empty word, which is neither a name nor a number: so such a row is found to be wrong.
def cut_words(row):
    return row.split(" ")


def join_words(parts):
    return " ".join([str(part) for part in parts])
