"""Forms and books, written as texts and read back."""

from keptreading.books import is_book
from keptreading.errors import NoText
from keptreading.forms import is_form


def show_form(form):
    return " ".join(form)


def read_form(text):
    if not isinstance(text, str):
        raise NoText("this is no text")
    word, blank, rest = text.partition(" ")
    # Signs may be blanks themselves, so they are not parted there.
    form = (word, rest) if word == "signs" else tuple(text.split(" "))
    if not is_form(form):
        raise NoText("this writes no form")
    return form


def show_book(book):
    return "; ".join([name + " = " + show_form(form) for name, form in book])


def read_rule(text):
    name, mid, rest = text.partition(" = ")
    return (name, read_form(rest))


def read_book(text):
    if not isinstance(text, str):
        raise NoText("this is no text")
    if text == "":
        return []
    # Signs rise, so a blank is never behind another one of them: where `; ` stands, a rule ends.
    book = [read_rule(piece) for piece in text.split("; ")]
    # Here it is also seen whether what stands for names are such.
    if not is_book(book):
        raise NoText("this writes no book")
    return book
