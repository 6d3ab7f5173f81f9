"""Reading a rule at a place of a text by a book: how far, what it reached, asked and leaned on, and its tree."""

from keptreading.books import is_book, loop
from keptreading.errors import Loops, NoBook, NoName, NoPlace, NoText, TooMany
from keptreading.forms import is_name, is_text, parts_of

MOST_ROWS = 2000


class Asking:
    # One reading under way. What it wants is looked up or made by others and then taken in here, so that
    # readings may lie within one another as deep as the text and the book have it.

    def __init__(self, form, name, place):
        self.form = form
        self.name = name
        self.place = place
        self.at = place
        self.turn = 0
        self.steps = []
        self.done = False
        self.length = None

    def end(self, length):
        self.done = True
        self.length = length

    def wanted(self):
        return (self.form[1 + self.turn], self.at)

    def take(self, length):
        self.steps.append(self.wanted())
        word = self.form[0]
        if word == "row":
            self.take_in_row(length)
        elif word == "first":
            self.take_in_first(length)
        elif word == "again":
            self.take_in_again(length)
        elif word == "ahead":
            self.end(None if length is None else 0)
        else:
            self.end(0 if length is None else None)

    def take_in_row(self, length):
        if length is None:
            self.end(None)
            return
        self.at += length
        self.turn += 1
        if self.turn == len(self.form) - 1:
            self.end(self.at - self.place)

    def take_in_first(self, length):
        self.turn += 1
        if length is not None or self.turn == len(self.form) - 1:
            self.end(length)

    def take_in_again(self, length):
        # A turn that comes no farther would come again for ever.
        if length is None or length == 0:
            self.end(self.at - self.place)
        else:
            self.at += length

    def members(self):
        if self.form[0] == "row":
            return list(self.steps)
        if self.form[0] == "first":
            return self.steps[-1:]
        if self.form[0] == "again":
            return self.steps[:-1]
        return []


def length_alone(form, text, place):
    if form is None:
        return None
    if form[0] == "none":
        return 0
    if place == len(text):
        return None
    return 1 if form[0] == "any" or text[place] in form[1] else None


def begun(rules, text, name, place):
    form = rules.get(name)
    asking = Asking(form, name, place)
    if form is None or len(parts_of(form)) == 0:
        asking.end(length_alone(form, text, place))
    return asking


def found(asking, kept):
    farthest = asking.place
    leans = {asking.name: True}
    for step in asking.steps:
        length, reach, leaned = kept[step]
        farthest = max(farthest, step[1] + reach - 1)
        leans.update(leaned)
    return (asking.length, farthest - asking.place + 1, leans)


def make(rules, text, kept, name, place):
    # Each is kept as (length, reach, leans) behind all that it asks; leans as a dict of True, for these are
    # joined again and again. Told are those that were not kept before, in the order in which they are done.
    new = []
    if (name, place) in kept:
        return new
    under_way = [begun(rules, text, name, place)]
    while len(under_way) > 0:
        asking = under_way[-1]
        if asking.done:
            kept[(asking.name, asking.place)] = found(asking, kept)
            new.append((asking.name, asking.place))
            under_way.pop()
            continue
        wanted = asking.wanted()
        if wanted in kept:
            asking.take(kept[wanted][0])
        else:
            under_way.append(begun(rules, text, wanted[0], wanted[1]))
    return new


def asked_anew(rules, text, kept, name, place):
    # All that a kept reading asks is kept too, so what it asked need not be: it is walked again.
    asking = begun(rules, text, name, place)
    while not asking.done:
        asking.take(kept[asking.wanted()][0])
    return asking


def asked_of(rules, text, kept, name, place):
    asked = {}
    for step in asked_anew(rules, text, kept, name, place).steps:
        asked[step] = True
    return list(asked)


def all_below(rules, text, kept, name, place):
    below = {(name, place): True}
    left = [(name, place)]
    while len(left) > 0:
        own, start = left.pop()
        for step in asked_of(rules, text, kept, own, start):
            if step not in below:
                below[step] = True
                left.append(step)
    return below


def tree_of(rules, text, kept, name, place):
    if kept[(name, place)][0] is None:
        return None
    rows = []
    left = [(0, name, place)]
    while len(left) > 0:
        if len(rows) == MOST_ROWS:
            raise TooMany("the tree has too many rows")
        level, own, start = left.pop()
        rows.append((level, own, start, kept[(own, start)][0]))
        for part, at in reversed(asked_anew(rules, text, kept, own, start).members()):
            left.append((level + 1, part, at))
    return rows


def is_whole(thing):
    return isinstance(thing, int) and not isinstance(thing, bool)


def is_place(text, thing):
    return is_whole(thing) and 0 <= thing <= len(text)


def refuse_wrong_book(book):
    if not is_book(book):
        raise NoBook("this is no book")
    if loop(book) is not None:
        raise Loops("the book loops")


def refuse_wrong(book, name, text, place):
    refuse_wrong_book(book)
    if not is_name(name):
        raise NoName("this is no name")
    if not is_text(text):
        raise NoText("this is no text of such signs")
    if not is_place(text, place):
        raise NoPlace("this is no place of the text")


def made_alone(book, name, text, place):
    refuse_wrong(book, name, text, place)
    kept = {}
    make(dict(book), text, kept, name, place)
    return kept


def reading(book, name, text, place):
    kept = made_alone(book, name, text, place)
    length, reach, leans = kept[(name, place)]
    return (length, reach, asked_of(dict(book), text, kept, name, place), sorted(leans))


def tree(book, name, text, place):
    kept = made_alone(book, name, text, place)
    return tree_of(dict(book), text, kept, name, place)
