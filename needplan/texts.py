"""Shops and numbers as texts."""

from needplan.errors import NoShop, NoText
from needplan.wares import COMING, NAME, PARTS, is_name, is_shop, names_of

FIGURES = "0123456789"
MOST_FIGURES = 60

# What stands behind the first word of a row.
ROWS = {
    "ware": ("name", "number", "number", "number", "number"),
    "coming": ("name", "number", "number"),
    "part": ("name", "name", "number"),
    "want": ("name", "number", "number"),
}


def is_number(word):
    if not isinstance(word, str) or not 1 <= len(word) <= MOST_FIGURES:
        return False
    # Asked sign by sign: Python's own isdigit and int take figures of other scripts too.
    if not all([sign in FIGURES for sign in word]):
        return False
    return word == "0" or word[0] != "0"


def read_number(word):
    if not is_number(word):
        raise NoText("no number")
    return int(word)


def read_name(word):
    if not is_name(word):
        raise NoText("no name")
    return word


def read_words(words, form):
    if form is None or len(words) != len(form):
        raise NoText("no row of this form")
    told = []
    for word, sort in zip(words, form):
        told.append(read_name(word) if sort == "name" else read_number(word))
    return told


def read_row(row):
    words = row.split(" ")
    return [words[0]] + read_words(words[1:], ROWS.get(words[0]))


def read_shop(text):
    if not isinstance(text, str):
        raise NoText("no text")
    # All rows are read ahead of the shop, since a fault of the form goes ahead of one of the shop.
    rows = [read_row(row) for row in text.split("\n")]
    shop = written_shop(rows)
    # A row of a name that no ware's row has leaves no trace in the shop, so it is asked of the rows.
    if not is_shop(shop) or not all([row[1] in names_of(shop) for row in rows]):
        raise NoShop("the rows write no shop")
    return shop


def written_shop(rows):
    wares = []
    for row in rows:
        if row[0] == "ware":
            coming = tuple(rows_of(rows, "coming", row[1]))
            parts = tuple(rows_of(rows, "part", row[1]))
            wares.append(tuple(row[1:]) + (coming, parts))
    wants = [tuple(row[1:]) for row in rows if row[0] == "want"]
    return (tuple(wares), tuple(wants))


def rows_of(rows, sort, name):
    return [tuple(row[2:]) for row in rows if row[0] == sort and row[1] == name]


def shown_shop(shop):
    rows = []
    for ware in shop[0]:
        rows.append(shown_row("ware", ware[:COMING]))
        rows.extend([shown_row("coming", (ware[NAME],) + arrival) for arrival in ware[COMING]])
        rows.extend([shown_row("part", (ware[NAME],) + part) for part in ware[PARTS]])
    rows.extend([shown_row("want", want) for want in shop[1]])
    return "\n".join(rows)


def shown_row(sort, members):
    return " ".join([sort] + [str(member) for member in members])
