"""Kept rows: which of them stay behind a change, and whether they are right for a book and a text."""

from keptreading.forms import is_name
from keptreading.readings import is_place, is_whole, make


def placed(row, place):
    # The list is a new one, for what is told is the asker's own.
    return (row[0], row[1], place, row[3], row[4], list(row[5]))


def by_number(rows):
    return sorted(rows, key=lambda row: row[0])


def place_behind_put(place, reach, a, b, many):
    if place + reach <= a:
        return place
    if place >= b:
        return place + many - (b - a)
    return None


def behind_put(rows, a, b, many):
    stay = []
    for row in rows:
        place = place_behind_put(row[2], row[4], a, b, many)
        if place is not None:
            stay.append(placed(row, place))
    return by_number(stay)


def behind_rule(rows, name):
    return by_number([placed(row, row[2]) for row in rows if name not in row[5]])


def is_row(text, thing):
    if not isinstance(thing, tuple) or len(thing) != 6:
        return False
    number, name, place, length, reach, leans = thing
    if not is_whole(number) or number < 0 or not is_name(name) or not is_place(text, place):
        return False
    if not (length is None or is_whole(length)) or not is_whole(reach):
        return False
    return isinstance(leans, list) and all([is_name(leaned) for leaned in leans])


def are_unlike(rows):
    numbers = len(set([row[0] for row in rows]))
    ones = len(set([(row[1], row[2]) for row in rows]))
    return numbers == len(rows) and ones == len(rows)


def tells(kept, row):
    length, reach, leans = kept[(row[1], row[2])]
    return row[3] == length and row[4] == reach and row[5] == sorted(leans)


def are_rows(book, text, rows):
    if not isinstance(rows, list) or not all([is_row(text, row) for row in rows]):
        return False
    if not are_unlike(rows):
        return False
    kept = {}
    rules = dict(book)
    for row in rows:
        make(rules, text, kept, row[1], row[2])
    # Made were these and all that they ask: where that is no more than these, each asked one is one of them.
    return len(kept) == len(rows) and all([tells(kept, row) for row in rows])
