"""Lines of words: how rows and what is said at the desk are read, and how deeds are written."""

from cartelship.words import cut_words, good_name, read_day, read_number

STROKE = "/"

# What stands behind the first word, word by word.
DEED_FORMS = {
    "take": ("name", "name"),
    "word": ("name",),
    "free": ("name",),
    "flee": ("name",),
    "rank": ("name", "number"),
    "die": ("name",),
}
CHANGE_FORMS = {
    "side": ("name",),
    "man": ("name", "name", "number"),
    "cartel": ("name", "name", "number", "number", "number", "number", "number", "number", "number"),
}
DESK_FORMS = {
    "strike": ("number",),
    "redate": ("number", "day"),
    "undo": (),
    "redo": (),
    "stands": ("name", "day"),
    "roll": ("name", "name", "day"),
    "account": ("name", "name", "day"),
    "fullest": ("name", "name", "day"),
    "line": ("name", "day"),
}


# None stands for what can not be read, here and below.
def read_word(word, kind):
    if kind == "number":
        return read_number(word)
    if kind == "day":
        return read_day(word)
    return word if good_name(word) else None


def read_form(words, form):
    if form is None or len(words) != len(form) + 1:
        return None
    parts = [read_word(word, kind) for word, kind in zip(words[1:], form)]
    # None is sought by itself, as 0 is a number that was read.
    if any([part is None for part in parts]):
        return None
    return words[:1] + parts


def read_swap(words):
    if words.count(STROKE) != 1:
        return None
    at = words.index(STROKE)
    names = words[1:at] + words[at + 1:]
    # Both sides are named ahead of the stroke, whether any man is or not.
    if at < 3 or not all([good_name(name) for name in names]):
        return None
    return ("swap", words[1], words[2], tuple(words[3:at]), tuple(words[at + 1:]))


def read_deed(words):
    if words[:1] == ["swap"]:
        return read_swap(words)
    parts = read_form(words, DEED_FORMS.get(words[0])) if words else None
    return None if parts is None else tuple(parts)


def read_with_deed(words, form):
    head = read_form(words[:len(form) + 1], form)
    deed = read_deed(words[len(form) + 1:])
    if head is None or deed is None:
        return None
    return head + [deed]


def read_row(row):
    words = cut_words(row)
    if words[0] == "deed":
        return read_with_deed(words, ("number", "number"))
    if words[0] == "next":
        return read_form(words, ("number",))
    return read_form(words, CHANGE_FORMS.get(words[0]))


def read_line(line):
    words = cut_words(line)
    if words[0] == "on":
        return read_with_deed(words, ("day",))
    if words[0] in CHANGE_FORMS:
        return read_form(words, CHANGE_FORMS[words[0]])
    return read_form(words, DESK_FORMS.get(words[0]))


def deed_words(deed):
    if deed[0] == "swap":
        return list(deed[:3]) + list(deed[3]) + [STROKE] + list(deed[4])
    return list(deed)
