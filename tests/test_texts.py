import copy
import itertools
import random
import string
import unittest

import helper
from keptreading.books import is_book
from keptreading.errors import NoText
from keptreading.forms import is_form
from keptreading.texts import read_book, read_form, show_book, show_form

ALL_SIGNS = "".join(sign for sign in map(chr, range(32, 127)) if sign != "%")

FORMS = [
    (("none",), "none"),
    (("any",), "any"),
    (("signs", "a"), "signs a"),
    (("signs", " "), "signs  "),
    (("signs", " a"), "signs  a"),
    (("signs", ";"), "signs ;"),
    (("signs", " ;=a"), "signs  ;=a"),
    (("signs", "="), "signs ="),
    (("signs", " ="), "signs  ="),
    (("signs", "abyz"), "signs abyz"),
    (("signs", ALL_SIGNS[:40]), "signs " + ALL_SIGNS[:40]),
    (("signs", ALL_SIGNS[-40:]), "signs " + ALL_SIGNS[-40:]),
    (("row", "a"), "row a"),
    (("row", "a", "a", "b"), "row a a b"),
    (("row", "row", "first", "signs"), "row row first signs"),
    (("row",) + ("abcdefgh",) * 8, "row" + " abcdefgh" * 8),
    (("first", "x"), "first x"),
    (("first",) + tuple("hgfedcba"), "first h g f e d c b a"),
    (("again", "again"), "again again"),
    (("again", "abcdefgh"), "again abcdefgh"),
    (("ahead", "x"), "ahead x"),
    (("not", "none"), "not none"),
    (("not", "signs"), "not signs"),
]

BOOKS = [
    ([], ""),
    ([("a", ("none",))], "a = none"),
    ([("a", ("any",)), ("b", ("row", "a", "c"))], "a = any; b = row a c"),
    ([("a", ("signs", " ;=")), ("b", ("none",))], "a = signs  ;=; b = none"),
    ([("a", ("signs", ";")), ("b", ("signs", "=")), ("c", ("signs", " "))], "a = signs ;; b = signs =; c = signs  "),
    ([("a", ("signs", " ;")), ("abcdefgh", ("signs", " ="))], "a = signs  ;; abcdefgh = signs  ="),
    ([("a", ("signs", " ")), ("b", ("not", "b"))], "a = signs  ; b = not b"),
    ([("a", ("again", "b")), ("b", ("again", "a"))], "a = again b; b = again a"),
    ([("row", ("row", "row"))], "row = row row"),
]

NO_FORMS = [
    "", " ", "  ", "none ", " none", "any any", "none a", "None", "NONE", "nonee", "non", "any ", " any", "anyany",
    "any\n", "row", "row ", "row  ", " row a", "row a ", "row  a", "row a  b", "row A", "row a B", "row a,b", "row a1",
    "row a\tb", "row\ta", "row a\n", "row a\nb", "row abcdefghi", "row a abcdefghi", "row a b c d e f g h i",
    "row" + " a" * 9, "Row a",
    "first", "first ", "first  a", "first a ", "first" + " b" * 9, "First a", "fist a", "first \u00e9", "row %",
    "again", "again ", "again a b", "again  a", "again a ", "again A", "Again a", "ahead", "ahead a b", "ahead a ",
    "aheada", "not", "not a b", "not ", "not  a", "not A", "not abcdefghi",
    "signs", "signs ", "signs ba", "signs aa", "signs a ", "signs  a ", "signs   ", "signs  ba", "signs a b", "signs %",
    "signs a%", "signs a\n", "signs \n", "signs \t", "signs a\u00e9", "signs \x7f", "signs \x1f", "Signs a", "signsa",
    " signs a", "sign a", "signs " + ALL_SIGNS[:41], "signs " + ALL_SIGNS, "signs $&%", "signs " + "a" * 4000,
    "row " * 1000, "a = none", "none; any", "row a;", ";", "=", "row a = b", "none\0", "\ufeffnone", "row\u00a0a",
    "signs\u00a0a", "row \uff41", "\ud800",
]

NO_BOOKS = [
    " ", "a", "a =", "a = ", "a=none", "a =none", "a= none", "a  = none", "a =  none", " a = none", "a = none ",
    "= none", " = none", "A = none", "a b = none", "abcdefghi = none", "a1 = none", "\u00e9 = none", "% = none", "none",
    "none = a", "a = none;", "a = none; ", "; a = none", ";", "; ", "a = none; ; b = none", "a = none;b = none",
    "a = none ; b = none", "a = none;  b = none", "a = none b = none", "a = none, b = none", "b = none; a = none",
    "a = none; a = none", "a = none; a = any", "a = none; c = none; b = none", "a = none; b", "a = none; b =",
    "a = none; b = ", "a = none; = any",
    "a = b = none", "a = a = none", "a = none\n", "a = none\nb = none", "a = none;\nb = none", "a = none;\tb = none",
    "a\t= none", "a = None", "a = nothing", "a = row", "a = row b c d e f g h i j", "a = signs", "a = signs ",
    "a = signs ; b = none", "a = signs ba; b = none", "a = signs ; ", "a = signs a; ", "a = signs a;b = none",
    "a = signs %", "a = signs a\n; b = none", "a = signs ;; ", "a = signs ;;; b = none", "a == none", "a = = none",
    "a : none", "a = none; B = none", "a = none; b = row A", "\na = none", "a = none; " * 400, "a = none\0", "\ud800",
]


class Forms(unittest.TestCase):
    def there_and_back(self, form, text):
        shown = show_form(form)
        self.assertEqual((shown, type(shown)), (text, str))
        found = read_form(text)
        self.assertEqual(found, form)
        self.assertEqual(helper.kinds(found), helper.kinds(form))

    def test_by_hand(self):
        for form, text in FORMS:
            self.assertTrue(is_form(form), form)
            self.there_and_back(form, text)

    def test_every_word_with_names_of_every_length(self):
        for many in range(1, 9):
            name = string.ascii_lowercase[-many:]
            for word in ("row", "first", "again", "ahead", "not"):
                self.there_and_back((word, name), f"{word} {name}")
            for word in ("row", "first"):
                self.there_and_back((word,) + (name,) * many, word + f" {name}" * many)

    def test_signs(self):
        for sign in ALL_SIGNS:
            self.there_and_back(("signs", sign), "signs " + sign)
            for other in " ;=az~":
                signs = "".join(sorted({sign, other}))
                self.there_and_back(("signs", signs), "signs " + signs)
        dice = random.Random(541)
        for turn in range(300):
            signs = "".join(sorted(dice.sample(ALL_SIGNS, dice.randint(1, 40))))
            self.there_and_back(("signs", signs), "signs " + signs)

    def test_texts_that_write_none(self):
        for text in NO_FORMS:
            with self.assertRaises(NoText, msg=repr(text)[:100]):
                read_form(text)

    def test_things_of_every_kind(self):
        for thing in helper.odd_things() + [helper.Alike(), ("none",), ["none"], [], ("row", "a"), b"any"]:
            if thing.__class__ is str and thing == "none":
                continue
            with self.assertRaises(NoText, msg=repr(thing)[:100]):
                read_form(thing)

    # Each text of a few signs is the writing of what it reads as, or writes none.
    def test_one_writing(self):
        pieces = ["none", "any", "signs", "row", "not", "a", "b", "ab", " ", "  ", ";", "=", "A", "\n", "%"]
        for many in range(5):
            for chosen in itertools.product(pieces, repeat=many):
                text = "".join(chosen)
                try:
                    form = read_form(text)
                except NoText:
                    continue
                self.assertTrue(is_form(form), text)
                self.assertEqual(show_form(form), text)

    def test_a_blank_more_or_less(self):
        for form, text in FORMS:
            fixed = len("signs ") + 1 if form[0] == "signs" else 0
            for k in range(fixed, len(text) + 1):
                # A blank within a name makes two of it, but no other blank may come more.
                if form[0] == "signs" or k in (0, len(text)) or " " in text[k - 1:k + 1]:
                    self.assertRaises(NoText, read_form, text[:k] + " " + text[k:])
            for k in range(len(text)):
                if text[k] == " " and len(form) == 2 and form[0] != "signs":
                    self.assertRaises(NoText, read_form, text[:k] + text[k + 1:])


class Books(unittest.TestCase):
    def there_and_back(self, book, text):
        before = copy.deepcopy(book)
        shown = show_book(book)
        self.assertEqual((shown, type(shown)), (text, str))
        found = read_book(text)
        self.assertEqual(found, book)
        self.assertEqual(helper.kinds(found), helper.kinds(book))
        self.assertEqual(book, before)

    def test_by_hand(self):
        for book, text in BOOKS:
            self.assertTrue(is_book(book), book)
            self.there_and_back(book, text)

    def test_every_form(self):
        for form, text in FORMS:
            self.there_and_back([("a", form)], "a = " + text)
            self.there_and_back([("a", form), ("b", form), ("c", ("none",))], f"a = {text}; b = {text}; c = none")

    def test_there_and_back(self):
        for book in helper.small_books() + helper.random_books(542, 200, 8) + helper.LOOPING:
            self.there_and_back(book, "; ".join(name + " = " + " ".join(form) for name, form in book))

    # Signs that look like what parts the rules, in books of several rules.
    def test_signs_like_what_stands_between(self):
        few = [signs for many in range(1, 5) for signs in itertools.combinations(" ;=ab", many)]
        for one, other in itertools.product(few, few):
            book = [("a", ("signs", "".join(one))), ("b", ("signs", "".join(other))), ("c", ("row", "a"))]
            self.there_and_back(book, f"a = signs {''.join(one)}; b = signs {''.join(other)}; c = row a")

    def test_many_rules(self):
        for many in (30, 31, 400):
            book = helper.chain(helper.many_names(many), "first", ("signs", " ;="))
            self.assertEqual(read_book(show_book(book)), book)

    def test_texts_that_write_none(self):
        for text in NO_BOOKS:
            with self.assertRaises(NoText, msg=repr(text)[:100]):
                read_book(text)
        for text in NO_FORMS:
            for before, behind in (("a = ", ""), ("a = ", "; b = none"), ("a = any; b = ", "; c = none")):
                if "; " not in text + behind[:1]:
                    self.assertRaises(NoText, read_book, before + text + behind)

    def test_things_of_every_kind(self):
        for thing in helper.odd_things() + [helper.Alike(), [("a", ("none",))], ["a = none"], ("a = none",),
                                            b"a = none"]:
            if thing.__class__ is str and thing == "":
                continue
            with self.assertRaises(NoText, msg=repr(thing)[:100]):
                read_book(thing)

    def test_one_writing(self):
        pieces = ["a", "b", " = ", "=", "; ", ";", "none", "signs ", " ", "row a"]
        for many in range(6):
            for chosen in itertools.product(pieces, repeat=many):
                text = "".join(chosen)
                try:
                    book = read_book(text)
                except NoText:
                    continue
                self.assertTrue(is_book(book), text)
                self.assertEqual(show_book(book), text)

    def test_lists_are_new_ones(self):
        first = read_book("")
        first.append("spoiled")
        self.assertEqual(read_book(""), [])
        self.assertIsNot(read_book("a = any"), read_book("a = any"))


if __name__ == "__main__":
    unittest.main()
