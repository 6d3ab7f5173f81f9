"""Books of rules: which rules may be empty, what they may begin with, and rings of such."""

from keptreading.errors import NoRule
from keptreading.forms import is_form, is_name, parts_of

WORDS_EVER_EMPTY = ("none", "again", "ahead", "not")


def is_rule(thing):
    if not isinstance(thing, tuple) or len(thing) != 2:
        return False
    return is_name(thing[0]) and is_form(thing[1])


def names_rise(rows):
    return all([rows[k - 1][0] < rows[k][0] for k in range(1, len(rows))])


def is_book(thing):
    if not isinstance(thing, list):
        return False
    return all([is_rule(row) for row in thing]) and names_rise(thing)


def may_be_empty(form, empty):
    if form[0] == "row":
        return all([part in empty for part in parts_of(form)])
    if form[0] == "first":
        return any([part in empty for part in parts_of(form)])
    return form[0] in WORDS_EVER_EMPTY


def empty_names(book):
    # Growing from nothing finds just the rules that come to it by finitely many steps:
    # rules that only lean on one another round about never get in.
    empty = {}
    grows = True
    while grows:
        grows = False
        for name, form in book:
            if name not in empty and may_be_empty(form, empty):
                empty[name] = True
                grows = True
    return empty


def empty_rules(book):
    return sorted(empty_names(book))


def begins_of_row(parts, empty):
    begun = []
    for part in parts:
        begun.append(part)
        if part not in empty:
            break
    return begun


def begins_of_form(form, empty):
    if form[0] == "row":
        return begins_of_row(parts_of(form), empty)
    return parts_of(form)


def form_of(book, name):
    for own, form in book:
        if own == name:
            return form
    raise NoRule("the book has no such rule")


def begins(book, name):
    form = form_of(book, name)
    return sorted(set(begins_of_form(form, empty_names(book))))


def steps_of(book):
    empty = empty_names(book)
    steps = {}
    for name, form in book:
        steps[name] = begins_of_form(form, empty)
    return steps


def steps_within(steps, name, left):
    return [part for part in steps[name] if part in left]


def endless_rules(steps):
    # Rules from which no step leads to a rule that is left are put away, again and again. So names
    # that the book lacks fall out, and each rule that stays leads on to one that stays.
    left = dict(steps)
    shrinks = True
    while shrinks:
        ended = [name for name in left if len(steps_within(steps, name, left)) == 0]
        for name in ended:
            left.pop(name)
        shrinks = len(ended) > 0
    return left


def loop(book):
    steps = steps_of(book)
    left = endless_rules(steps)
    if len(left) == 0:
        return None
    # A walk that never ends among finitely many rules comes to one of them again.
    walked = []
    name = min(left)
    while name not in walked:
        walked.append(name)
        name = steps_within(steps, name, left)[0]
    return walked[walked.index(name):]
