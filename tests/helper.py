"""What several tests share: odd things, and the points of the document worked out another way."""

import random


def odd_things():
    within_itself = []
    within_itself.append(within_itself)
    return [
        0, 1, -1, 8, 10 ** 60, True, False, None, 1.5, float("nan"), b"none", b"a", object(), len, str,
        [], [[]], [()], [None], ["a"], [("a",)], [["a", ("none",)]], {}, {"a": ("none",)}, {0: "none"},
        (), ((),), ([],), ({},), (None,), (0,), (True,), ("",), ("a",), ("a", "b"), (("none",),),
        set(), {"a"}, frozenset(), range(3), "", " ", "\n", "\t", "\0", "%", "A", "a b", "\ud800", "\u00e9",
        "none", "a" * 4000, within_itself, (within_itself,), (within_itself, within_itself),
    ]


# A finite way to the empty reading never needs one rule within itself.
def comes_to_empty(rules, name, above=()):
    if name not in rules or name in above:
        return False
    word, parts = rules[name][0], rules[name][1:]
    found = [word in ("row", "first") and comes_to_empty(rules, part, above + (name,)) for part in parts]
    if word == "row":
        return all(found)
    if word == "first":
        return any(found)
    return word not in ("any", "signs")


def true_empty(book):
    return [name for name, form in book if comes_to_empty(dict(book), name)]


def true_begins(book, name):
    return begins_by(dict(book)[name], true_empty(book))


def begins_by(form, empty):
    if form[0] in ("none", "any", "signs"):
        return []
    parts = form[1:]
    if form[0] == "row":
        ends = [k for k in range(len(parts)) if parts[k] not in empty]
        parts = parts[:ends[0] + 1] if ends else parts
    return sorted(set(parts))


def true_loops(book):
    empty = true_empty(book)
    ways = {name: set(begins_by(form, empty)) for name, form in book}
    for mid in ways:
        for name in ways:
            if mid in ways[name]:
                ways[name] |= ways[mid]
    return any(name in ways[name] for name in ways)


def random_form(dice, names):
    word = dice.choice(["none", "any", "signs", "row", "row", "row", "first", "first", "again", "ahead", "not"])
    if word in ("none", "any"):
        return (word,)
    if word == "signs":
        return (word, "".join(sorted(dice.sample("abcxyz+-", dice.randint(1, 4)))))
    many = dice.randint(1, 4) if word in ("row", "first") else 1
    return (word,) + tuple(dice.choice(names) for k in range(many))


def random_book(dice, most):
    names = ["a", "b", "c", "d", "e", "f", "g", "h"]
    owned = sorted(dice.sample(names, dice.randint(0, most)))
    return [(name, random_form(dice, names)) for name in owned]


def random_books(seed, many, most):
    dice = random.Random(seed)
    return [random_book(dice, most) for k in range(many)]


def small_forms():
    names = ["a", "b", "c"]
    forms = [("none",), ("any",), ("signs", "xy")]
    for word in ("row", "first"):
        forms += [(word, x) for x in names] + [(word, x, y) for x in names for y in names]
    for word in ("again", "ahead", "not"):
        forms += [(word, x) for x in names]
    return forms


# Every book of the rules a and b, over forms that may also name c, which it lacks.
def small_books():
    return [[("a", one), ("b", two)] for one in small_forms() for two in small_forms()]


def many_names(many):
    letters = "abcdefghijklmnopqrstuvwxyz"
    return ["r" + letters[k // 26] + letters[k % 26] for k in range(many)]


# The names in a rising, a falling and several shuffled orders.
def orders(names):
    told = [list(names), list(reversed(names))]
    for seed in range(8):
        mixed = list(names)
        random.Random(seed).shuffle(mixed)
        told.append(mixed)
    return told


# A book in which each name of the order is made of the next one, the last one of the given form.
def chain(order, word, last):
    rules = [(name, (word, following)) for name, following in zip(order, order[1:])]
    return sorted(rules + [(order[-1], last)])
