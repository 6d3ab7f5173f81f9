import copy
import unittest

import helper
from keptreading import errors
from keptreading.errors import TooMany
from keptreading.readings import reading, tree

TEXTS = ("", "a", "b", "ab", "ba", "aab", " ~", "abcab")


class Told(unittest.TestCase):
    def told(self, book, name, text, place, expected):
        before = copy.deepcopy(book)
        found = reading(book, name, text, place)
        self.assertEqual(found, expected, (book, name, text, place))
        self.assertEqual(helper.kinds(found), helper.kinds(expected), (book, name, text, place))
        self.assertEqual(book, before)

    def each_place(self, book, name, text, expected):
        self.assertEqual(len(expected), len(text) + 1)
        for place, one in enumerate(expected):
            self.told(book, name, text, place, one)


class WordsThatAskNothing(Told):
    def test_none(self):
        for text in TEXTS:
            self.each_place([("r", ("none",))], "r", text, [(0, 1, [], ["r"])] * (len(text) + 1))

    def test_any(self):
        for text in TEXTS:
            expected = [(1, 1, [], ["r"])] * len(text) + [(None, 1, [], ["r"])]
            self.each_place([("r", ("any",))], "r", text, expected)

    def test_signs(self):
        for signs in ("a", "b", "ab", "c", " ~", " abc~"):
            for text in TEXTS:
                expected = [(1 if sign in signs else None, 1, [], ["r"]) for sign in text] + [(None, 1, [], ["r"])]
                self.each_place([("r", ("signs", signs))], "r", text, expected)

    def test_rules_that_the_book_lacks(self):
        for book in ([], [("q", ("any",)), ("s", ("row", "r"))]):
            for text in TEXTS:
                self.each_place(book, "r", text, [(None, 1, [], ["r"])] * (len(text) + 1))


class Rows(Told):
    rest = [("a", ("signs", "a")), ("b", ("signs", "b")), ("e", ("none",)), ("x", ("any",))]

    def row(self, parts, text, place, length, reach, asked, leans):
        asked = [(step[0], int(step[1:])) for step in asked.split()]
        self.told(sorted(self.rest + [("r", ("row",) + tuple(parts))]), "r", text, place,
                  (length, reach, asked, leans.split()))

    def test_one_part(self):
        self.row("a", "ab", 0, 1, 1, "a0", "a r")
        self.row("a", "ab", 1, None, 1, "a1", "a r")
        self.row("a", "ab", 2, None, 1, "a2", "a r")
        self.row("e", "ab", 2, 0, 1, "e2", "e r")
        self.row("q", "ab", 0, None, 1, "q0", "q r")

    def test_parts_behind_one_another(self):
        self.row("ab", "ab", 0, 2, 2, "a0 b1", "a b r")
        self.row("ab", "xab", 1, 2, 2, "a1 b2", "a b r")
        self.row("xab", "xab", 0, 3, 3, "x0 a1 b2", "a b r x")
        self.row("xxxxxxxx", "abababab", 0, 8, 8, "x0 x1 x2 x3 x4 x5 x6 x7", "r x")

    def test_up_to_the_first_that_is_not_read(self):
        self.row("ab", "aa", 0, None, 2, "a0 b1", "a b r")
        self.row("ab", "ba", 0, None, 1, "a0", "a r")
        self.row("abx", "aab", 0, None, 2, "a0 b1", "a b r")
        self.row("axb", "aba", 0, None, 3, "a0 x1 b2", "a b r x")
        self.row("xqx", "aba", 0, None, 2, "x0 q1", "q r x")

    def test_at_the_end(self):
        self.row("ab", "a", 0, None, 2, "a0 b1", "a b r")
        self.row("xx", "a", 0, None, 2, "x0 x1", "r x")
        self.row("xe", "a", 0, 1, 2, "x0 e1", "e r x")
        self.row("x", "", 0, None, 1, "x0", "r x")
        self.row("e", "", 0, 0, 1, "e0", "e r")

    def test_parts_of_length_none_and_the_same_one_twice(self):
        self.row("ee", "ab", 1, 0, 1, "e1", "e r")
        self.row("eae", "ab", 0, 1, 2, "e0 a0 e1", "a e r")
        self.row("eeaeebee", "ab", 0, 2, 3, "e0 a0 e1 b1 e2", "a b e r")
        self.row("eq", "ab", 0, None, 1, "e0 q0", "e q r")
        self.row("eeb", "ab", 0, None, 1, "e0 b0", "b e r")
        self.row("aa", "aab", 0, 2, 2, "a0 a1", "a r")
        self.row("aaa", "aab", 0, None, 3, "a0 a1 a2", "a r")
        self.row("exex", "ab", 0, 2, 2, "e0 x0 e1 x1", "e r x")


class Firsts(Told):
    rest = [("a", ("signs", "a")), ("b", ("signs", "b")), ("e", ("none",)), ("t", ("row", "x", "x")), ("x", ("any",))]

    def first(self, parts, text, place, length, reach, asked, leans):
        asked = [(name, place) for name in asked]
        self.told(sorted(self.rest + [("r", ("first",) + tuple(parts))]), "r", text, place,
                  (length, reach, asked, leans.split()))

    def test_none_read(self):
        self.first("a", "b", 0, None, 1, "a", "a r")
        self.first("ab", "ab", 2, None, 1, "ab", "a b r")
        self.first("qa", "ab", 1, None, 1, "qa", "a q r")
        self.first("aqaqab", "x", 0, None, 1, "aqb", "a b q r")
        self.first("aaaaaaaa", "x", 0, None, 1, "a", "a r")
        self.first("t", "a", 0, None, 2, "t", "r t x")

    def test_one_read_first_or_late(self):
        self.first("ab", "ab", 0, 1, 1, "a", "a r")
        self.first("ab", "ab", 1, 1, 1, "ab", "a b r")
        self.first("aqtb", "bb", 0, 2, 2, "aqt", "a q r t x")
        self.first("aqtb", "b", 0, 1, 2, "aqtb", "a b q r t x")
        self.first("aaaaaaab", "b", 0, 1, 1, "ab", "a b r")
        self.first("ax", "bb", 1, 1, 1, "ax", "a r x")

    def test_a_part_of_length_none_is_read(self):
        self.first("ex", "ab", 0, 0, 1, "e", "e r")
        self.first("aex", "b", 0, 0, 1, "ae", "a e r")
        self.first("te", "b", 0, 0, 2, "te", "e r t x")
        self.first("te", "", 0, 0, 1, "te", "e r t x")


class Agains(Told):
    rest = [("a", ("signs", "a")), ("e", ("none",)), ("f", ("first", "a", "e")), ("t", ("row", "x", "a")),
            ("x", ("any",))]

    def again(self, part, text, place, length, reach, places, leans):
        self.told(sorted(self.rest + [("r", ("again", part))]), "r", text, place,
                  (length, reach, [(part, at) for at in places], leans.split()))

    def test_no_turn(self):
        self.again("a", "ba", 0, 0, 1, [0], "a r")
        self.again("a", "", 0, 0, 1, [0], "a r")
        self.again("a", "ba", 2, 0, 1, [2], "a r")
        self.again("q", "ba", 1, 0, 1, [1], "q r")
        self.again("t", "xb", 0, 0, 2, [0], "a r t x")

    def test_several_turns(self):
        self.again("a", "aab", 0, 2, 3, [0, 1, 2], "a r")
        self.again("a", "aab", 1, 1, 2, [1, 2], "a r")
        self.again("a", "aaa", 0, 3, 4, [0, 1, 2, 3], "a r")
        self.again("t", "xababaa", 0, 6, 8, [0, 2, 4, 6], "a r t x")
        self.again("t", "bababb", 0, 4, 6, [0, 2, 4], "a r t x")
        self.again("x", "a" * 40, 0, 40, 41, range(41), "r x")

    def test_a_part_of_length_none(self):
        self.again("e", "ab", 0, 0, 1, [0], "e r")
        self.again("e", "", 0, 0, 1, [0], "e r")
        self.again("f", "aab", 0, 2, 3, [0, 1, 2], "a e f r")
        self.again("f", "b", 0, 0, 1, [0], "a e f r")
        self.again("f", "aa", 0, 2, 3, [0, 1, 2], "a e f r")
        self.again("f", "a", 0, 1, 2, [0, 1], "a e f r")


class Looks(Told):
    rest = [("a", ("signs", "a")), ("e", ("none",)), ("t", ("row", "x", "a")), ("x", ("any",))]

    def both(self, part, text, place, is_read, reach, leans):
        for word in ("ahead", "not"):
            length = 0 if is_read == (word == "ahead") else None
            self.told(sorted(self.rest + [("r", (word, part))]), "r", text, place,
                      (length, reach, [(part, place)], leans.split()))

    def test_of_what_is_read(self):
        self.both("a", "ba", 1, True, 1, "a r")
        self.both("e", "ba", 2, True, 1, "e r")
        self.both("e", "", 0, True, 1, "e r")
        self.both("t", "ba", 0, True, 2, "a r t x")

    def test_of_what_is_not_read(self):
        self.both("a", "ba", 0, False, 1, "a r")
        self.both("a", "ba", 2, False, 1, "a r")
        self.both("q", "ba", 0, False, 1, "q r")
        self.both("t", "bb", 0, False, 2, "a r t x")
        self.both("t", "b", 0, False, 2, "a r t x")
        self.both("t", "", 0, False, 1, "r t x")


SUMS = [
    ("digit", ("signs", "0123456789")), ("end", ("not", "sign")), ("more", ("again", "digit")),
    ("number", ("row", "digit", "more")), ("other", ("row", "plus", "number")), ("others", ("again", "other")),
    ("plus", ("signs", "+")), ("sign", ("any",)), ("sum", ("row", "number", "others", "end")),
]


class Levels(Told):
    def test_sums(self):
        leans = ["digit", "end", "more", "number", "other", "others", "plus", "sign", "sum"]
        self.told(SUMS, "sum", "1+23+4", 0, (6, 7, [("number", 0), ("others", 1), ("end", 6)], leans))
        self.told(SUMS, "sum", "1+23+4", 2, (4, 5, [("number", 2), ("others", 4), ("end", 6)], leans))
        self.told(SUMS, "sum", "12+x", 0, (None, 4, [("number", 0), ("others", 2), ("end", 2)], leans))
        self.told(SUMS, "sum", "x", 0, (None, 1, [("number", 0)], ["digit", "number", "sum"]))
        self.told(SUMS, "others", "1+23+4", 1, (5, 6, [("other", 1), ("other", 4), ("other", 6)],
                                              ["digit", "more", "number", "other", "others", "plus"]))
        self.told(SUMS, "number", "1+23+4", 2, (2, 3, [("digit", 2), ("more", 3)], ["digit", "more", "number"]))

    def test_looks_within_looks(self):
        book = [("a", ("signs", "a")), ("na", ("not", "a")), ("nna", ("not", "na")), ("pna", ("ahead", "na")),
                ("r", ("row", "nna", "x", "pna", "x")), ("x", ("any",))]
        self.told(book, "nna", "ab", 0, (0, 1, [("na", 0)], ["a", "na", "nna"]))
        self.told(book, "pna", "ab", 0, (None, 1, [("na", 0)], ["a", "na", "pna"]))
        self.told(book, "r", "ab", 0, (2, 2, [("nna", 0), ("x", 0), ("pna", 1), ("x", 1)],
                                      ["a", "na", "nna", "pna", "r", "x"]))
        self.told(book, "r", "aa", 0, (None, 2, [("nna", 0), ("x", 0), ("pna", 1)],
                                      ["a", "na", "nna", "pna", "r", "x"]))

    def test_reach_goes_beyond_the_length(self):
        book = [("far", ("row", "x", "x", "x")), ("look", ("ahead", "far")), ("r", ("row", "look", "x")),
                ("s", ("first", "far", "x")), ("x", ("any",))]
        self.told(book, "r", "abcd", 0, (1, 3, [("look", 0), ("x", 0)], ["far", "look", "r", "x"]))
        self.told(book, "r", "abcd", 2, (None, 3, [("look", 2)], ["far", "look", "r", "x"]))
        self.told(book, "s", "abcd", 2, (1, 3, [("far", 2), ("x", 2)], ["far", "s", "x"]))
        self.told(book, "s", "abcd", 3, (1, 2, [("far", 3), ("x", 3)], ["far", "s", "x"]))
        self.told(book, "s", "abcd", 4, (None, 1, [("far", 4), ("x", 4)], ["far", "s", "x"]))

    def test_leans_on_what_is_asked_alone(self):
        book = [("a", ("signs", "a")), ("b", ("first", "zz", "a")), ("c", ("row", "b", "yy")),
                ("d", ("first", "a", "c"))]
        self.told(book, "d", "a", 0, (1, 1, [("a", 0)], ["a", "d"]))
        self.told(book, "d", "b", 0, (None, 1, [("a", 0), ("c", 0)], ["a", "b", "c", "d", "zz"]))
        self.told(book, "c", "a", 0, (None, 2, [("b", 0), ("yy", 1)], ["a", "b", "c", "yy", "zz"]))


class AgainstASecondWorkingOut(Told):
    def check(self, book, text):
        truth = helper.Truth(book, text)
        for name, place in truth.every([name for name, form in book] + ["z"]):
            self.told(book, name, text, place, truth.reading(name, place))
            self.assertEqual(tree(book, name, text, place), truth.tree(name, place), (book, name, text, place))

    def test_small_books(self):
        for book in helper.small_sound_books():
            self.check(book, "xzx")
        for book in helper.small_sound_books()[::5]:
            self.check(book, "")
            self.check(book, "y")

    def test_random_books(self):
        for book, text in helper.read_cases(4, 3000, 9):
            self.check(book, text)


class Deep(Told):
    text = "ab" * 200

    def test_rules_that_ask_themselves_behind_each_sign(self):
        book = [("deep", ("first", "more", "none")), ("more", ("row", "sign", "deep")), ("none", ("none",)),
                ("sign", ("any",))]
        for place in (0, 1, 200, 399):
            self.told(book, "deep", self.text, place,
                      (400 - place, 401 - place, [("more", place)], ["deep", "more", "none", "sign"]))
        self.told(book, "deep", self.text, 400,
                  (0, 1, [("more", 400), ("none", 400)], ["deep", "more", "none", "sign"]))
        self.told([("r", ("row", "x", "r")), ("x", ("any",))], "r", self.text, 0,
                  (None, 401, [("x", 0), ("r", 1)], ["r", "x"]))

    def test_thirty_rules_that_ask_one_another_behind_each_sign(self):
        names = helper.many_names(28)
        rules = [(name, ("row", following)) for name, following in zip(names, names[1:])]
        rules += [(names[27], ("row", "sign", "start")), ("sign", ("any",))]
        book = sorted(rules + [("start", ("first", names[0]))])
        self.told(book, names[0], self.text, 0, (None, 401, [(names[1], 0)], sorted(names + ["sign", "start"])))
        book = sorted(rules + [("start", ("not", names[0]))])
        self.told(book, names[0], self.text, 0, (None, 401, [(names[1], 0)], sorted(names + ["sign", "start"])))
        self.told(book, names[0], self.text, 1, (1, 400, [(names[1], 1)], sorted(names + ["sign", "start"])))
        self.told(book, names[0], self.text, 399, (1, 2, [(names[1], 399)], sorted(names + ["sign", "start"])))

    def test_looks_ahead_over_all_the_text(self):
        book = [("even", ("row", "sign", "flip")), ("flip", ("not", "even")), ("sign", ("any",))]
        for place in range(0, 401, 57):
            self.told(book, "even", self.text, place, (
                1 if (400 - place) % 2 else None, 401 - place,
                [("sign", place)] + ([("flip", place + 1)] if place < 400 else []),
                ["even", "flip", "sign"] if place < 400 else ["even", "sign"]))

    def test_chains_of_thirty(self):
        for order in helper.orders(helper.many_names(30)):
            for word in ("row", "first"):
                book = helper.chain(order, word, ("any",))
                self.told(book, order[0], "ab", 1, (1, 1, [(order[1], 1)], sorted(order)))
                self.told(book, order[0], "ab", 2, (None, 1, [(order[1], 2)], sorted(order)))
            book = helper.chain(order, "not", ("any",))
            self.told(book, order[0], "ab", 1, (None, 1, [(order[1], 1)], sorted(order)))
            self.told(book, order[1], "ab", 1, (0, 1, [(order[2], 1)], sorted(order[1:])))

    def test_the_same_reading_asked_by_many(self):
        names = helper.many_names(29)
        for word, last, length in (("row", ("none",), 0), ("first", ("signs", "c"), None), ("first", ("any",), 1)):
            rules = [(name, (word,) + (following,) * 8) for name, following in zip(names, names[1:])]
            self.told(rules + [(names[28], last)], names[0], "ab", 0, (length, 1, [(names[1], 0)], names))
        # Without keeping, each sign would double what is to be read.
        book = [("r", ("first", "s", "t", "x")), ("s", ("row", "x", "r", "q")), ("t", ("row", "x", "r", "p")),
                ("x", ("any",))]
        self.told(book, "r", self.text, 0, (1, 401, [("s", 0), ("t", 0), ("x", 0)], ["p", "q", "r", "s", "t", "x"]))

    def test_agains_at_every_place(self):
        book = [("all", ("again", "sign")), ("look", ("ahead", "all")), ("one", ("row", "look", "sign")),
                ("ones", ("again", "one")), ("sign", ("any",))]
        self.told(book, "ones", self.text, 0, (
            400, 401, [("one", place) for place in range(401)], ["all", "look", "one", "ones", "sign"]))


class ListsAndRefusals(Told):
    def test_the_lists_are_new_and_unlike(self):
        for name in ("sum", "others", "end", "digit", "lacking"):
            for place in (0, 1, 6):
                told = reading(SUMS, name, "1+23+4", place)
                once_more = reading(SUMS, name, "1+23+4", place)
                self.assertEqual(len({id(told[2]), id(told[3]), id(once_more[2]), id(once_more[3])}), 4)
                expected = copy.deepcopy(told)
                told[2].append(("more", 0))
                told[3].clear()
                self.told(SUMS, name, "1+23+4", place, expected)
                rows = tree(SUMS, name, "1+23+4", place)
                if rows is not None:
                    expected = list(rows)
                    rows.clear()
                    self.assertEqual(tree(SUMS, name, "1+23+4", place), expected)

    def test_the_book_may_change_behind_it(self):
        book = [("a", ("any",)), ("b", ("row", "a"))]
        self.told(book, "b", "x", 0, (1, 1, [("a", 0)], ["a", "b"]))
        book.pop(0)
        self.told(book, "b", "x", 0, (None, 1, [("a", 0)], ["a", "b"]))
        book[0] = ("b", ("none",))
        self.told(book, "b", "x", 0, (0, 1, [], ["b"]))

    def test_refusals_of_reading(self):
        helper.check_refusals(self, reading, errors)

    def test_refusals_of_tree(self):
        helper.check_refusals(self, tree, errors)

    def test_every_sign_is_read(self):
        signs = "".join(chr(k) for k in range(32, 127) if chr(k) != "%")
        book = [("all", ("again", "x")), ("x", ("any",))]
        self.assertEqual(reading(book, "all", signs, 0)[:2], (94, 95))
        for sign in signs:
            self.told([("s", ("signs", sign))], "s", sign, 0, (1, 1, [], ["s"]))


class Trees(unittest.TestCase):
    def told(self, book, name, text, place, expected):
        before = copy.deepcopy(book)
        found = tree(book, name, text, place)
        self.assertEqual(found, expected, (book, name, text, place))
        self.assertEqual(helper.kinds(found), helper.kinds(expected))
        self.assertEqual(book, before)

    def test_words_without_members(self):
        book = [("any", ("any",)), ("look", ("ahead", "both")), ("none", ("none",)), ("nor", ("not", "lacking")),
                ("signs", ("signs", "xy")), ("two", ("row", "any", "any")), ("both", ("row", "two", "two"))]
        for name, length in (("any", 1), ("none", 0), ("signs", 1), ("look", 0), ("nor", 0)):
            self.told(sorted(book), name, "wxyzx", 1, [(0, name, 1, length)])
        for name in ("any", "signs", "look", "two", "both", "lacking"):
            self.told(sorted(book), name, "wxyz", 4, None)
        self.told(sorted(book), "none", "wxyz", 4, [(0, "none", 4, 0)])

    def test_several_levels(self):
        self.told(SUMS, "sum", "1+23", 0, [
            (0, "sum", 0, 4),
            (1, "number", 0, 1), (2, "digit", 0, 1), (2, "more", 1, 0),
            (1, "others", 1, 3), (2, "other", 1, 3), (3, "plus", 1, 1),
            (3, "number", 2, 2), (4, "digit", 2, 1), (4, "more", 3, 1), (5, "digit", 3, 1),
            (1, "end", 4, 0),
        ])
        self.told(SUMS, "others", "1+23", 0, [(0, "others", 0, 0)])
        self.told(SUMS, "sum", "1+23", 1, None)
        self.told(SUMS, "sum", "1+", 0, None)

    def test_rows_with_the_same_part_twice(self):
        book = [("e", ("none",)), ("r", ("row", "e", "x", "e", "e", "x")), ("x", ("any",))]
        self.told(book, "r", "ab", 0, [(0, "r", 0, 2), (1, "e", 0, 0), (1, "x", 0, 1), (1, "e", 1, 0), (1, "e", 1, 0),
                                       (1, "x", 1, 1)])
        self.told(book, "r", "a", 0, None)

    def test_firsts(self):
        book = [("a", ("signs", "a")), ("b", ("signs", "b")), ("e", ("none",)), ("q", ("first", "p", "e", "a")),
                ("r", ("first", "p", "a", "a", "s")), ("s", ("first", "b", "e"))]
        self.told(book, "r", "ab", 0, [(0, "r", 0, 1), (1, "a", 0, 1)])
        self.told(book, "r", "ab", 1, [(0, "r", 1, 1), (1, "s", 1, 1), (2, "b", 1, 1)])
        self.told(book, "r", "ab", 2, [(0, "r", 2, 0), (1, "s", 2, 0), (2, "e", 2, 0)])
        self.told(book, "q", "ab", 0, [(0, "q", 0, 0), (1, "e", 0, 0)])

    def test_agains(self):
        book = [("a", ("signs", "a")), ("e", ("none",)), ("f", ("first", "a", "e")), ("r", ("again", "a")),
                ("s", ("again", "f")), ("t", ("again", "q"))]
        for name, inner in (("r", "a"), ("s", "f")):
            rows = [(0, name, 0, 2)]
            for place in (0, 1):
                rows += [(1, inner, place, 1)] + ([(2, "a", place, 1)] if inner == "f" else [])
            self.told(book, name, "aab", 0, rows)
            self.told(book, name, "aab", 2, [(0, name, 2, 0)])
        self.told(book, "t", "aab", 0, [(0, "t", 0, 0)])

    def test_deep(self):
        book = [("deep", ("first", "more", "none")), ("more", ("row", "sign", "deep")), ("none", ("none",)),
                ("sign", ("any",))]
        rows = []
        for place in range(400):
            rows += [(2 * place, "deep", place, 400 - place), (2 * place + 1, "more", place, 400 - place),
                     (2 * place + 2, "sign", place, 1)]
        rows += [(800, "deep", 400, 0), (801, "none", 400, 0)]
        self.told(book, "deep", "x" * 400, 0, rows)

    def many(self, parts):
        return [("e", ("none",)), ("m", ("again", "x")), ("r", ("row", "m") + ("e",) * parts), ("s", ("any",)),
                ("w", ("not", "r")), ("x", ("row", "s", "e", "e", "e"))]

    def test_two_thousand_rows_and_one_more(self):
        # 399 turns of five rows, the again, the row itself, and the parts behind.
        rows = tree(self.many(3), "r", "a" * 399, 0)
        self.assertEqual(len(rows), 2000)
        self.assertEqual(rows, helper.Truth(self.many(3), "a" * 399).tree("r", 0))
        self.assertEqual(len(tree(self.many(7), "r", "a" * 398, 0)), 1999)
        for parts in (4, 5, 7):
            with self.assertRaises(TooMany):
                tree(self.many(parts), "r", "a" * 399, 0)

    def test_many_rows_that_are_no_members(self):
        book = self.many(4)
        self.told(book, "w", "a" * 399, 0, None)
        self.told(sorted(book + [("a", ("ahead", "r"))]), "a", "a" * 399, 0, [(0, "a", 0, 0)])
        self.told(sorted(book + [("a", ("row", "r", "q"))]), "a", "a" * 399, 0, None)
        self.told(sorted(book + [("a", ("not", "w"))]), "a", "a" * 399, 0, [(0, "a", 0, 0)])

    def test_trees_that_double_at_each_level(self):
        names = helper.many_names(30)
        rules = [(name, ("row", following, following)) for name, following in zip(names, names[1:])]
        book = rules + [(names[29], ("none",))]
        for k in range(30):
            if k < 20:
                with self.assertRaises(TooMany):
                    tree(book, names[k], "ab", 1)
            else:
                self.assertEqual(len(tree(book, names[k], "ab", 1)), 2 ** (30 - k) - 1)

    def test_too_many_behind_the_other_refusals(self):
        book = self.many(4)
        text = "a" * 399
        for wrong, refusal in (((book, "r", text, 400), errors.NoPlace), ((book, "r", text + "%", 0), errors.NoText),
                               ((book, "R", text, 0), errors.NoName), ((book[::-1], "r", text, 0), errors.NoBook),
                               ((book + [("z", ("row", "z"))], "r", text, 0), errors.Loops)):
            with self.assertRaises(refusal):
                tree(*wrong)


if __name__ == "__main__":
    unittest.main()
