"""Readers: a text, a book and the readings made of them, kept for as long as no deed touches them."""

from keptreading.books import loop
from keptreading.errors import Loops, NoDeed, NoForm, NoName, NoPlace, NoRows, NoRule, NoText
from keptreading.forms import is_form, is_name, is_text
from keptreading.papers import paper_of
from keptreading.readings import all_below, asked_of, is_place, make, refuse_wrong_book, tree_of
from keptreading.stays import are_rows, by_number, place_behind_put


class Reader:
    # Of a kept reading, under its (name, place), stand (length, reach, leans) and, apart from it, its number.
    # All that a kept one asks is kept too: what lets go of a reading lets go of all that asked it.

    def __init__(self):
        self.signs = ""
        self.rules = {}
        self.readings = {}
        self.numbers = {}
        self.makings = 0
        self.following = 0
        self.ways_back = []

    def read(self, name, place=0):
        self.sure(name, place)
        length, reach, leans = self.readings[(name, place)]
        return (length, reach)

    def row(self, name, place=0):
        self.sure(name, place)
        return self.kept_row(name, place)

    def asked(self, name, place=0):
        self.sure(name, place)
        return asked_of(self.rules, self.signs, self.readings, name, place)

    def paper(self, name, place=0):
        self.sure(name, place)
        return paper_of(self.rules, self.signs, self.readings, name, place)

    def tree(self, name, place=0):
        self.sure(name, place)
        return tree_of(self.rules, self.signs, self.readings, name, place)

    def kept(self):
        return by_number([self.kept_row(name, place) for name, place in self.readings])

    def made(self):
        return self.makings

    def text(self):
        return self.signs

    def book(self):
        return sorted(self.rules.items())

    def put(self, a, b, signs):
        # Of a and b each is looked at by itself first, for they may be no numbers at all.
        if not is_place(self.signs, a) or not is_place(self.signs, b) or a > b:
            raise NoPlace("these are no places of the text, one no more than the other")
        if not is_text(signs):
            raise NoText("this is no text of such signs")
        self.ways_back.append(("put", a, a + len(signs), self.signs[a:b]))
        self.change_text(a, b, signs)

    def rule(self, name, form):
        if not is_name(name):
            raise NoName("this is no name")
        if not is_form(form):
            raise NoForm("this is no form")
        changed = dict(self.rules)
        changed[name] = form
        if loop(sorted(changed.items())) is not None:
            raise Loops("the book would loop")
        self.ways_back.append(("rule", name, self.rules.get(name)))
        self.change_rule(name, form)

    def drop(self, name):
        if not is_name(name) or name not in self.rules:
            raise NoRule("the book has no such rule")
        self.ways_back.append(("rule", name, self.rules[name]))
        self.change_rule(name, None)

    def undo(self):
        if len(self.ways_back) == 0:
            raise NoDeed("there is nothing to undo")
        way = self.ways_back.pop()
        if way[0] == "put":
            self.change_text(way[1], way[2], way[3])
        else:
            self.change_rule(way[1], way[2])

    def sweep(self, name, place=0):
        self.sure(name, place)
        return self.keep_alone(all_below(self.rules, self.signs, self.readings, name, place))

    def forget(self):
        return self.keep_alone({})

    def sure(self, name, place):
        if not is_name(name):
            raise NoName("this is no name")
        if not is_place(self.signs, place):
            raise NoPlace("this is no place of the text")
        for one in make(self.rules, self.signs, self.readings, name, place):
            self.numbers[one] = self.following
            self.following += 1
            self.makings += 1

    def kept_row(self, name, place):
        length, reach, leans = self.readings[(name, place)]
        return (self.numbers[(name, place)], name, place, length, reach, sorted(leans))

    def change_text(self, a, b, signs):
        self.signs = self.signs[:a] + signs + self.signs[b:]
        readings = {}
        numbers = {}
        for name, place in self.readings:
            told = self.readings[(name, place)]
            new = place_behind_put(place, told[1], a, b, len(signs))
            if new is not None:
                readings[(name, new)] = told
                numbers[(name, new)] = self.numbers[(name, place)]
        self.readings = readings
        self.numbers = numbers

    def change_rule(self, name, form):
        if form is None:
            self.rules.pop(name)
        else:
            self.rules[name] = form
        self.keep_alone([one for one in self.readings if name not in self.readings[one][2]])

    def keep_alone(self, stay):
        readings = {}
        numbers = {}
        for one in stay:
            readings[one] = self.readings[one]
            numbers[one] = self.numbers[one]
        went = len(self.readings) - len(readings)
        self.readings = readings
        self.numbers = numbers
        return went


def laid(book, text, rows):
    refuse_wrong_book(book)
    if not is_text(text):
        raise NoText("this is no text of such signs")
    if not are_rows(book, text, rows):
        raise NoRows("these are no right rows")
    new = Reader()
    new.signs = text
    new.rules = dict(book)
    for number, name, place, length, reach, leans in rows:
        new.readings[(name, place)] = (length, reach, dict([(leaned, True) for leaned in leans]))
        new.numbers[(name, place)] = number
        new.following = max(new.following, number + 1)
    return new
