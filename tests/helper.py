"""What several tests share: odd things, and the points of the document worked out another way."""

import random


def odd_things():
    within_itself = []
    within_itself.append(within_itself)
    return [
        0, 1, -1, 8, 10 ** 60, True, False, None, 1.5, float("nan"), b"none", b"a", object(), len, str,
        [], [[]], [()], [None], ["a"], [("a",)], [["a", ("none",)]], {}, {"a": ("none",)}, {0: "none"},
        (), ((),), ([],), ({},), (None,), (0,), (True,), ("",), ("a",), ("a", "b"), (("none",),),
        set(), {"a"}, frozenset(), range(3), "", " ", "\n", "\t", "\0", "%", "A", "a b", "\ud800", "\u00e9",
        "none", "a" * 4000, within_itself, (within_itself,), (within_itself, within_itself),
    ]


class Alike:
    # Equal to everything, though of another kind than anything.
    __hash__ = None

    def __eq__(self, other):
        return True


# A finite way to the empty reading never needs one rule within itself.
def comes_to_empty(rules, name, above=()):
    if name not in rules or name in above:
        return False
    word, parts = rules[name][0], rules[name][1:]
    found = [word in ("row", "first") and comes_to_empty(rules, part, above + (name,)) for part in parts]
    if word == "row":
        return all(found)
    if word == "first":
        return any(found)
    return word not in ("any", "signs")


def true_empty(book):
    return [name for name, form in book if comes_to_empty(dict(book), name)]


def true_begins(book, name):
    return begins_by(dict(book)[name], true_empty(book))


def begins_by(form, empty):
    if form[0] in ("none", "any", "signs"):
        return []
    parts = form[1:]
    if form[0] == "row":
        ends = [k for k in range(len(parts)) if parts[k] not in empty]
        parts = parts[:ends[0] + 1] if ends else parts
    return sorted(set(parts))


def true_loops(book):
    empty = true_empty(book)
    ways = {name: set(begins_by(form, empty)) for name, form in book}
    for mid in ways:
        for name in ways:
            if mid in ways[name]:
                ways[name] |= ways[mid]
    return any(name in ways[name] for name in ways)


def random_form(dice, names):
    word = dice.choice(["none", "any", "signs", "row", "row", "row", "first", "first", "again", "ahead", "not"])
    if word in ("none", "any"):
        return (word,)
    if word == "signs":
        return (word, "".join(sorted(dice.sample("abcxyz+-", dice.randint(1, 4)))))
    many = dice.randint(1, 4) if word in ("row", "first") else 1
    return (word,) + tuple(dice.choice(names) for k in range(many))


def random_book(dice, most):
    names = ["a", "b", "c", "d", "e", "f", "g", "h"]
    owned = sorted(dice.sample(names, dice.randint(0, most)))
    return [(name, random_form(dice, names)) for name in owned]


def random_books(seed, many, most):
    dice = random.Random(seed)
    return [random_book(dice, most) for k in range(many)]


def small_forms():
    names = ["a", "b", "c"]
    forms = [("none",), ("any",), ("signs", "xy")]
    for word in ("row", "first"):
        forms += [(word, x) for x in names] + [(word, x, y) for x in names for y in names]
    for word in ("again", "ahead", "not"):
        forms += [(word, x) for x in names]
    return forms


# Every book of the rules a and b, over forms that may also name c, which it lacks.
def small_books():
    return [[("a", one), ("b", two)] for one in small_forms() for two in small_forms()]


def many_names(many):
    letters = "abcdefghijklmnopqrstuvwxyz"
    return ["r" + letters[k // 26] + letters[k % 26] for k in range(many)]


# The names in a rising, a falling and several shuffled orders.
def orders(names):
    told = [list(names), list(reversed(names))]
    for seed in range(8):
        mixed = list(names)
        random.Random(seed).shuffle(mixed)
        told.append(mixed)
    return told


# A book in which each name of the order is made of the next one, the last one of the given form.
def chain(order, word, last):
    rules = [(name, (word, following)) for name, following in zip(order, order[1:])]
    return sorted(rules + [(order[-1], last)])


# The small books that do not loop, with the rule c lacking, and of several forms.
def small_sound_books():
    thirds = ([], [("c", ("any",))], [("c", ("again", "d")), ("d", ("signs", "x"))])
    return [book + third for third in thirds for book in small_books() if not true_loops(book + third)]


def random_text(dice, most):
    return "".join(dice.choice("abx+") for k in range(dice.randint(0, most)))


# A book in which rows mostly begin with a sign, so that readings reach far; the rule f may be lacking.
def far_book(dice):
    leaves = [("g", ("signs", "ab")), ("h", ("any",))] + dice.choice([[], [("f", ("none",))], [("f", ("signs", "x"))]])
    book = list(leaves)
    for name in "abcde":
        form = random_form(dice, ["a", "b", "c", "d", "e", "f", "g", "h"])
        if form[0] == "row" and dice.random() < 0.8:
            form = ("row", dice.choice("gh")) + form[1:]
        book.append((name, form))
    return sorted(book)


# Books of several rules that do not loop, with one text each, short enough to try every rule at every place.
def read_cases(seed, many, most):
    dice = random.Random(seed)
    books = random_books(seed, many, 8) + [far_book(dice) for k in range(many)]
    sound = [book for book in books if len(book) > 3 and not true_loops(book)]
    return [(book, random_text(dice, most)) for book in sound]


class Truth:
    # Reads as the table has it, and finds reach and leaning by gathering all that is asked below.
    def __init__(self, book, text):
        self.rules = dict(book)
        self.text = text
        self.found = {}

    def whole(self, name, place):
        if (name, place) not in self.found:
            self.found[(name, place)] = self.work_out(self.rules.get(name, ("lacking",)), place)
        return self.found[(name, place)]

    def length(self, name, place):
        return self.whole(name, place)[0]

    def work_out(self, form, place):
        word, parts = form[0], form[1:]
        here = self.text[place:place + 1]
        if word in ("lacking", "none"):
            return (None if word == "lacking" else 0), [], []
        if word in ("any", "signs"):
            return (1 if here and (word == "any" or here in parts[0]) else None), [], []
        if word == "again":
            return self.work_out_again(parts[0], place)
        if word == "row":
            return self.work_out_row(parts, place)
        lengths = [self.length(part, place) for part in parts[:1]]
        while word == "first" and lengths[-1] is None and len(lengths) < len(parts):
            lengths.append(self.length(parts[len(lengths)], place))
        asks = [(part, place) for part in parts[:len(lengths)]]
        if word == "first":
            return lengths[-1], asks, asks[-1:]
        return (0 if (lengths[0] is None) == (word == "not") else None), asks, []

    def work_out_row(self, parts, place):
        at, asks = place, []
        for part in parts:
            asks.append((part, at))
            length = self.length(part, at)
            if length is None:
                return None, asks, []
            at += length
        return at - place, asks, asks

    def work_out_again(self, part, place):
        asks = [(part, place)]
        while self.length(*asks[-1]):
            asks.append((part, asks[-1][1] + self.length(*asks[-1])))
        return asks[-1][1] - place, asks, asks[:-1]

    def below(self, name, place):
        all_below = [(name, place)]
        for one in all_below:
            for step in self.whole(*one)[1]:
                if step not in all_below:
                    all_below.append(step)
        return all_below

    def reading(self, name, place):
        length, asks, members = self.whole(name, place)
        below = self.below(name, place)
        farthest = max(at for part, at in below)
        asked = [step for k, step in enumerate(asks) if step not in asks[:k]]
        return length, farthest - place + 1, asked, sorted({part for part, at in below})

    def tree(self, name, place, level=0):
        length, asks, members = self.whole(name, place)
        if length is None:
            return None
        rows = [(level, name, place, length)]
        for part, at in members:
            rows += self.tree(part, at, level + 1)
        return rows

    def row(self, number, name, place):
        length, reach, asked, leans = self.reading(name, place)
        return (number, name, place, length, reach, leans)

    def every(self, names):
        return [(name, place) for name in names for place in range(len(self.text) + 1)]


# The kinds of all that lies in a thing, so that True and 1, a list and a tuple are told apart.
def kinds(thing):
    if isinstance(thing, (list, tuple)):
        return (type(thing), [kinds(part) for part in thing])
    return type(thing)


def lists_within(thing):
    if not isinstance(thing, (list, tuple)):
        return []
    found = [thing] if isinstance(thing, list) else []
    for part in thing:
        found += lists_within(part)
    return found


SOUND = [("a", ("any",)), ("b", ("row", "a", "a"))]
LOOPING = [
    [("a", ("row", "a"))], [("a", ("not", "a"))], [("a", ("any",)), ("b", ("again", "b"))],
    [("a", ("row", "b", "a")), ("b", ("none",))], [("a", ("first", "b")), ("b", ("first", "c")), ("c", ("ahead", "a"))],
]
NO_BOOKS = [
    [("b", ("any",)), ("a", ("any",))], [("a", ("any",)), ("a", ("any",))], (("a", ("any",)),), [["a", ("any",)]],
    [("a", ["any"])], [("a", None)], [("a", ("signs", "ba"))], [("A", ("any",))], [("a", ("any",), 0)], {"a": ("any",)},
    [("b", ("row", "b")), ("a", ("row", "a"))],
]
NO_NAMES = ["", "abcdefghi", "A", "a b", "a\n", "a1", "\u00e9", "%"]
NO_TEXTS = ["%", "a%", "%a", "a%a", "\n", "ab\n", "\tab", "a\tb", "\u00e9", "ab\u00e9", "a\u2028b", "\x7f", "a\x1f",
            "\0", "\ud800", "\uff41"]


# Each wrong thing with the right ones it may stand beside, as (place among the arguments, things, refusal).
def wrong_arguments(errors):
    odd = odd_things()
    return [
        (0, NO_BOOKS + [thing for thing in odd if thing != []], errors.NoBook),
        (0, LOOPING, errors.Loops),
        (1, NO_NAMES + [thing for thing in odd if thing != "none"], errors.NoName),
        (2, NO_TEXTS + [thing for thing in odd if not isinstance(thing, str)], errors.NoText),
        (3, [-1, -2, 3, 4, 400, -10 ** 60] + [thing for thing in odd if type(thing) is not int or thing > 2],
         errors.NoPlace),
    ]


# Of one asked with (book, name, text, place): each refusal by itself, and each few of them at once.
def check_refusals(case, asked, errors):
    wrongs = wrong_arguments(errors)
    for place, things, refusal in wrongs:
        for thing in things:
            arguments = [SOUND, "b", "ab", 0]
            arguments[place] = thing
            with case.assertRaises(refusal, msg=repr(thing)[:100]):
                asked(*arguments)
    for several in range(1, 2 ** len(wrongs)):
        chosen = [wrongs[k] for k in range(len(wrongs)) if several >> k & 1]
        for turn in range(12):
            arguments = [SOUND, "b", "ab", 0]
            for place, things, refusal in reversed(chosen):
                arguments[place] = things[turn % len(things)]
            with case.assertRaises(chosen[0][2], msg=repr(arguments)[:300]):
                asked(*arguments)
    for text in ("", "a", "ab"):
        with case.assertRaises(errors.NoPlace):
            asked(SOUND, "b", text, len(text) + 1)
        with case.assertRaises(errors.NoPlace):
            asked(SOUND, "lacking", text, -1)
        asked(SOUND, "b", text, len(text))


class Model:
    # A reader that keeps nothing but numbers, by (name, place), and works out all else from nothing.
    def __init__(self, book=(), text="", numbers=()):
        self.now(text, list(book))
        self.numbers = dict(numbers)
        self.makings = 0
        self.following = max(self.numbers.values(), default=-1) + 1
        self.past = []

    def now(self, text, book):
        self.text, self.book, self.truth = text, book, Truth(book, text)

    def ask(self, name, place=0):
        if (name, place) not in self.numbers:
            for step in self.truth.whole(name, place)[1]:
                self.ask(*step)
            self.numbers[(name, place)] = self.following
            self.following += 1
            self.makings += 1

    def rows(self):
        return sorted(self.truth.row(number, *one) for one, number in self.numbers.items())

    def touch_signs(self, a, b, many):
        rows, self.numbers = self.rows(), {}
        for number, name, place, length, reach, leans in rows:
            if place >= b or place + reach - 1 < a:
                self.numbers[(name, place + many - (b - a) if place >= b else place)] = number

    def touch_rule(self, name):
        self.numbers = {(row[1], row[2]): row[0] for row in self.rows() if name not in row[5]}

    def put(self, a, b, signs):
        self.past.append((self.text, self.book, (a, a + len(signs), b - a)))
        self.touch_signs(a, b, len(signs))
        self.now(self.text[:a] + signs + self.text[b:], self.book)

    def change(self, name, rules):
        self.past.append((self.text, self.book, name))
        self.touch_rule(name)
        self.now(self.text, sorted([rule for rule in self.book if rule[0] != name] + rules))

    def undo(self):
        text, book, back = self.past.pop()
        if isinstance(back, str):
            self.touch_rule(back)
        else:
            self.touch_signs(*back)
        self.now(text, book)

    def sweep(self, name, place=0):
        self.ask(name, place)
        below = self.truth.below(name, place)
        went = [one for one in self.numbers if one not in below]
        self.numbers = {one: self.numbers[one] for one in below}
        return len(went)


# All that shows how a reader stands, but for what there is to undo.
def state(reader):
    return (reader.text(), reader.book(), reader.kept(), reader.made())


def state_of_model(model):
    return (model.text, model.book, model.rows(), model.makings)


# Tells a new reader a book and a text by deeds, the rules in the order of the given dice.
def told_by_deeds(reader, book, text, dice):
    for name, form in dice.sample(book, len(book)):
        reader.rule(name, form)
    reader.put(0, 0, text)
    return reader
