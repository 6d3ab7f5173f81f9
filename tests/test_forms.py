import copy
import string
import unittest

import helper
from keptreading.forms import is_form, is_name, parts_of

ONE_NAME = ("again", "ahead", "not")
SOME_NAMES = ("row", "first")
WORDS = ("none", "any", "signs") + SOME_NAMES + ONE_NAME

SIGNS = [chr(k) for k in range(32, 127) if chr(k) != "%"]
NO_NAMES = ["", "abcdefghi", "A", "aB", "a1", "1", "a b", " a", "a ", "a\n", "\na", "a\t", "a_", "a-b", "%", "\u00e9",
            "\u0430", "\uff41", "\u00aa", "\u00df", None, 0, 1, True, ["a"], ("a",), {"a": 1}, b"a"]


class Told(unittest.TestCase):
    def yes(self, told, thing):
        self.assertIs(told(thing), True, repr(thing)[:200])

    def no(self, told, thing):
        self.assertIs(told(thing), False, repr(thing)[:200])


class Names(Told):
    def test_one_to_eight_small_letters(self):
        for letter in string.ascii_lowercase:
            self.yes(is_name, letter)
            self.yes(is_name, letter * 8)
        for many in range(1, 9):
            self.yes(is_name, "azbycxdw"[:many])

    def test_none_and_nine_letters(self):
        self.no(is_name, "")
        for many in (9, 10, 40, 4000):
            self.no(is_name, "a" * many)

    def test_any_other_sign_at_any_place(self):
        others = [chr(k) for k in range(0x250)]
        others += ["\u0430", "\u03b1", "\uff41", "\u2028", "\u1d41", "\ud800", "\U0001d41a", "\u0131"]
        for sign in others:
            if sign in string.ascii_lowercase:
                continue
            for thing in (sign, sign + "a", "a" + sign, "ab" + sign + "cd", "abcdefg" + sign, "abcdefgh" + sign):
                self.no(is_name, thing)

    def test_things_that_are_no_texts(self):
        for thing in helper.odd_things():
            if thing == "none":
                continue
            self.no(is_name, thing)
        for thing in NO_NAMES:
            self.no(is_name, thing)


class Forms(Told):
    def test_words_alone(self):
        for word in ("none", "any"):
            self.yes(is_form, (word,))
            for more in ("a", "", None, ()):
                self.no(is_form, (word, more))
            self.no(is_form, (word, "a", "b"))

    def test_words_with_one_name(self):
        for word in ONE_NAME:
            self.yes(is_form, (word, "a"))
            self.yes(is_form, (word, "abcdefgh"))
            self.yes(is_form, (word, word))
            self.no(is_form, (word,))
            self.no(is_form, (word, "a", "b"))
            self.no(is_form, (word, "a", "a"))
            for name in NO_NAMES:
                self.no(is_form, (word, name))

    def test_words_with_some_names(self):
        for word in SOME_NAMES:
            self.no(is_form, (word,))
            for many in range(1, 9):
                self.yes(is_form, (word,) + tuple("abcdefgh"[:many]))
                self.yes(is_form, (word,) + ("same",) * many)
            for many in (9, 10, 100):
                self.no(is_form, (word,) + ("same",) * many)
            self.no(is_form, (word, ("a", "b")))
            self.no(is_form, (word, ["a", "b"]))

    def test_a_name_that_is_none_among_some(self):
        for word in SOME_NAMES:
            for name in NO_NAMES:
                self.no(is_form, (word, name))
                for place in range(8):
                    names = ["a"] * 8
                    names[place] = name
                    self.no(is_form, (word,) + tuple(names))

    def test_how_many_signs(self):
        self.no(is_form, ("signs", ""))
        for many in range(1, 41):
            self.yes(is_form, ("signs", "".join(SIGNS[:many])))
            self.yes(is_form, ("signs", "".join(SIGNS[-many:])))
        for many in (41, 42, len(SIGNS)):
            self.no(is_form, ("signs", "".join(SIGNS[:many])))
            self.no(is_form, ("signs", "".join(SIGNS[-many:])))

    def test_which_signs(self):
        for k in list(range(0x250)) + [0x430, 0x2028, 0xd800, 0x1f600]:
            sign = chr(k)
            told = self.yes if sign in SIGNS else self.no
            told(is_form, ("signs", sign))
            if sign not in SIGNS:
                for text in ("ab" + sign, sign + "ab", "a" + sign + "b"):
                    self.no(is_form, ("signs", text))
        self.no(is_form, ("signs", "$%&"))
        self.yes(is_form, ("signs", "$&"))

    def test_signs_rise(self):
        for low, high in zip(SIGNS, SIGNS[1:]):
            self.yes(is_form, ("signs", low + high))
            self.no(is_form, ("signs", high + low))
            self.no(is_form, ("signs", low + low))
        for text in ("abb", "aab", "acb", "bac", "aba", "abcdeff", "Aab ", "aA"):
            self.no(is_form, ("signs", text))
        self.yes(is_form, ("signs", " 09AZaz~"))

    def test_signs_put_wrong(self):
        self.no(is_form, ("signs",))
        self.no(is_form, ("signs", "a", "b"))
        self.no(is_form, ("signs", "a", "a"))
        for thing in (None, 1, True, ["a"], ("a",), ["a", "b"], ("a", "b"), {"a": 1}, b"a"):
            self.no(is_form, ("signs", thing))

    def test_other_words(self):
        for word in ("", "None", "NONE", "none ", " none", "none\n", "sign", "rows", "or", "a", "some", "n", "%"):
            for parts in ((), ("a",), ("a", "b")):
                self.no(is_form, (word,) + parts)

    def test_the_word_is_no_text(self):
        for word in helper.odd_things():
            if word == "none":
                continue
            self.no(is_form, (word,))
            self.no(is_form, (word, "a"))
            self.no(is_form, (word, "a", "b"))
        self.no(is_form, (("row",), "a"))
        self.no(is_form, (["row"], "a"))

    def test_a_list_in_the_place_of_the_tuple(self):
        for form in (("none",), ("any",), ("signs", "a"), ("row", "a"), ("first", "a"), ("not", "a")):
            self.yes(is_form, form)
            self.no(is_form, list(form))
            self.no(is_form, (form,))

    def test_things_of_other_kinds(self):
        for thing in helper.odd_things():
            self.no(is_form, thing)
        for word in WORDS:
            self.no(is_form, word)
            self.no(is_form, {word: "a"})


class Parts(unittest.TestCase):
    def test_none_of_the_first_three(self):
        for form in (("none",), ("any",), ("signs", "a"), ("signs", "abc"), ("signs", " az")):
            self.assertEqual(parts_of(form), [])

    def test_the_names_in_their_order(self):
        for word in ONE_NAME:
            self.assertEqual(parts_of((word, "b")), ["b"])
        for word in SOME_NAMES:
            self.assertEqual(parts_of((word, "b")), ["b"])
            self.assertEqual(parts_of((word, "c", "a", "b")), ["c", "a", "b"])
            self.assertEqual(parts_of((word,) + tuple("hgfedcba")), list("hgfedcba"))

    def test_a_name_more_than_once(self):
        for word in SOME_NAMES:
            self.assertEqual(parts_of((word, "b", "a", "b", "b")), ["b", "a", "b", "b"])

    def test_the_list_is_new_and_the_askers_own(self):
        for form in (("none",), ("any",), ("signs", "a"), ("row", "a", "b"), ("first", "a"), ("again", "a"),
                     ("ahead", "a"), ("not", "a")):
            before = copy.deepcopy(form)
            told = parts_of(form)
            self.assertIs(type(told), list)
            expected = list(told)
            told.append("more")
            self.assertEqual(parts_of(form), expected)
            self.assertIsNot(parts_of(form), parts_of(form))
            self.assertEqual(form, before)


if __name__ == "__main__":
    unittest.main()
