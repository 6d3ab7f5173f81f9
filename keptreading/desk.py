"""The desk: a reader that is spoken to in rows of words and answers in texts."""

from keptreading.books import loop
from keptreading.errors import NoRow
from keptreading.forms import is_name
from keptreading.reader import Reader, laid
from keptreading.texts import read_book, read_form, show_book

FIGURES = "0123456789"
MOST_FIGURES = 60

# What stands behind each word; the rest is all that is left, with its blanks.
SHAPES = {
    "put": ("number", "number", "rest"),
    "rule": ("name", "rest"),
    "drop": ("name",),
    "undo": (),
    "read": ("name", "number"),
    "number": ("name", "number"),
    "tree": ("name", "number"),
    "leans": ("name", "number"),
    "kept": (),
    "made": (),
    "sweep": ("name", "number"),
    "forget": (),
    "ring": ("rest",),
    "text": (),
    "book": (),
    "load": ("rest",),
}


def is_number(word):
    if not 1 <= len(word) <= MOST_FIGURES or not all([figure in FIGURES for figure in word]):
        return False
    return word == "0" or word[0] != "0"


def value_of(kind, word):
    if kind == "number":
        if not is_number(word):
            raise NoRow("this is no number")
        return int(word)
    if kind == "name" and not is_name(word):
        raise NoRow("this is no name")
    return word


def parted(row):
    if not isinstance(row, str):
        raise NoRow("this is no row")
    first = row.partition(" ")[0]
    if first not in SHAPES:
        raise NoRow("no row begins so")
    shape = SHAPES[first]
    words = row.split(" ", len(shape))
    # Where nothing is to follow nothing was split off, and the first word still has what stands behind it.
    if words[0] != first or len(words) != len(shape) + 1:
        raise NoRow("this row has too few words or too many")
    return [first] + [value_of(kind, word) for kind, word in zip(shape, words[1:])]


def show_rows(rows):
    if rows is None:
        return "no"
    return "; ".join([f"{level} {name} {place} {length}" for level, name, place, length in rows])


def show_read(told):
    length, reach = told
    shown = "no" if length is None else str(length)
    return f"{shown} {reach}"


def show_ring(ring):
    return "none" if ring is None else " ".join(ring)


def ask_reading(held, word, name, place):
    if word == "read":
        return show_read(held.read(name, place))
    if word == "number":
        return str(held.row(name, place)[0])
    if word == "tree":
        return show_rows(held.tree(name, place))
    if word == "leans":
        return " ".join(held.row(name, place)[5])
    return str(held.sweep(name, place))


def ask_alone(held, word):
    if word == "kept":
        return str(len(held.kept()))
    if word == "made":
        return str(held.made())
    if word == "forget":
        return str(held.forget())
    if word == "text":
        return "'" + held.text() + "'"
    return show_book(held.book())


def do_deed(held, words):
    if words[0] == "put":
        held.put(words[1], words[2], words[3])
    elif words[0] == "rule":
        held.rule(words[1], read_form(words[2]))
    elif words[0] == "drop":
        held.drop(words[1])
    else:
        held.undo()
    return "ok"


class Desk:
    def __init__(self):
        self.held = Reader()

    def say(self, row):
        words = parted(row)
        if words[0] in ("put", "rule", "drop", "undo"):
            return do_deed(self.held, words)
        if words[0] == "ring":
            return show_ring(loop(read_book(words[1])))
        if words[0] == "load":
            self.held = laid(read_book(words[1]), self.held.text(), [])
            return "ok"
        if len(words) == 1:
            return ask_alone(self.held, words[0])
        return ask_reading(self.held, words[0], words[1], words[2])

    def reader(self):
        return (self.held.text(), self.held.book())
