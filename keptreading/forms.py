"""Names, signs and forms: what a rule may be called, what stands in a text, and how a rule may read."""

LETTERS = "abcdefghijklmnopqrstuvwxyz"
MOST_LETTERS = 8
MOST_SIGNS = 40
MOST_PARTS = 8

# The percent sign, by its number: it may stand in no text of this program, so not here either.
BARRED_SIGN = 37

WORDS_ALONE = ("none", "any")
WORDS_WITH_ONE = ("again", "ahead", "not")
WORDS_WITH_SOME = ("row", "first")


def is_name(thing):
    if not isinstance(thing, str):
        return False
    if not 1 <= len(thing) <= MOST_LETTERS:
        return False
    return all([letter in LETTERS for letter in thing])


def is_sign(sign):
    return " " <= sign <= "~" and ord(sign) != BARRED_SIGN


def is_text(thing):
    return isinstance(thing, str) and all([is_sign(sign) for sign in thing])


def are_rising_signs(thing):
    if not is_text(thing):
        return False
    if not 1 <= len(thing) <= MOST_SIGNS:
        return False
    return all([thing[k - 1] < thing[k] for k in range(1, len(thing))])


def is_form(thing):
    if not isinstance(thing, tuple) or len(thing) == 0:
        return False
    word = thing[0]
    # A thing that is no text may have its own meaning of ==, so it is sorted out first.
    if not isinstance(word, str):
        return False
    if word in WORDS_ALONE:
        return len(thing) == 1
    if word == "signs":
        return len(thing) == 2 and are_rising_signs(thing[1])
    if word in WORDS_WITH_ONE:
        return len(thing) == 2 and is_name(thing[1])
    if word in WORDS_WITH_SOME:
        return 1 <= len(thing) - 1 <= MOST_PARTS and all([is_name(part) for part in thing[1:]])
    return False


def parts_of(form):
    # What stands behind this word is no name.
    if form[0] == "signs":
        return []
    return list(form[1:])
