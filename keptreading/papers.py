"""Papers: what a reading reached and leaned on, and so all that it hangs on."""

from keptreading.books import loop, names_rise
from keptreading.forms import is_form, is_name, is_text
from keptreading.readings import is_whole, made_alone, reading


def paper_of(forms, text, kept, name, place):
    length, reach, leans = kept[(name, place)]
    rules = [(leaned, forms.get(leaned)) for leaned in sorted(leans)]
    return (name, length, reach, text[place:place + reach], place + reach > len(text), rules)


def paper(book, name, text, place):
    kept = made_alone(book, name, text, place)
    return paper_of(dict(book), text, kept, name, place)


def is_paper_rule(thing):
    if not isinstance(thing, tuple) or len(thing) != 2:
        return False
    return is_name(thing[0]) and (thing[1] is None or is_form(thing[1]))


def are_paper_rules(thing):
    if not isinstance(thing, list):
        return False
    return all([is_paper_rule(row) for row in thing]) and names_rise(thing)


def has_paper_parts(thing):
    if not isinstance(thing, tuple) or len(thing) != 6:
        return False
    name, length, reach, signs, ends, rules = thing
    if not is_name(name) or not (length is None or is_whole(length)):
        return False
    return is_whole(reach) and is_text(signs) and isinstance(ends, bool) and are_paper_rules(rules)


def is_paper(thing):
    if not has_paper_parts(thing):
        return False
    name, length, reach, signs, ends, rules = thing
    if reach != len(signs) + (1 if ends else 0):
        return False
    book = [row for row in rules if row[1] is not None]
    if loop(book) is not None:
        return False
    told = reading(book, name, signs, 0)
    return told[0] == length and told[1] == reach and told[3] == [row[0] for row in rules]
