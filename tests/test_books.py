import copy
import unittest

import helper
from keptreading.books import begins, empty_rules, is_book, loop
from keptreading.errors import NoRule

SINGLE = {
    "none": (("none",), True, []),
    "any": (("any",), False, []),
    "signs": (("signs", "bc"), False, []),
    "row": (("row", "b"), False, ["b"]),
    "first": (("first", "b"), False, ["b"]),
    "again": (("again", "b"), True, ["b"]),
    "ahead": (("ahead", "b"), True, ["b"]),
    "not": (("not", "b"), True, ["b"]),
}


class IsBook(unittest.TestCase):
    def yes(self, thing):
        before = copy.deepcopy(thing)
        self.assertIs(is_book(thing), True, repr(thing)[:200])
        self.assertEqual(thing, before)

    def no(self, thing):
        self.assertIs(is_book(thing), False, repr(thing)[:200])

    def test_books_of_any_size(self):
        self.yes([])
        for form, empty, begun in SINGLE.values():
            self.yes([("a", form)])
        names = helper.many_names(200)
        for many in (2, 3, 29, 30, 31, 40, 200):
            self.yes([(name, ("row", "lacking", name)) for name in names[:many]])
        self.yes([("a", ("any",)), ("aa", ("any",)), ("ab", ("any",)), ("b", ("any",)), ("zzzzzzzz", ("any",))])

    def test_names_that_fall_or_stand_twice(self):
        one = ("any",)
        self.no([("b", one), ("a", one)])
        self.no([("a", one), ("a", one)])
        self.no([("a", one), ("a", ("none",))])
        self.no([("aa", one), ("a", one)])
        self.no([("a", one), ("b", one), ("b", one), ("c", one)])
        self.no([("a", one), ("c", one), ("b", one)])
        self.no([("b", one), ("a", one), ("c", one)])
        self.no([("a", one), ("b", one), ("a", one)])
        self.no([("b", one), ("aa", one)])

    def test_rows_put_wrong(self):
        right = ("b", ("any",))
        wrong = [["b", ("any",)], ("b",), (), ("b", ("any",), ("any",)), ("b", "any"), ("b", ["any"]), ("b", None),
                 ("b", ("row",)), ("b", ("signs", "ba")), ("B", ("any",)), ("", ("any",)), ("bcdefghij", ("any",)),
                 ("b\n", ("any",)), (1, ("any",)), (None, ("any",)), (True, ("any",)), (("any",), "b"), "b", "bb",
                 None, 0, {"b": ("any",)}, {}]
        self.yes([("a", ("any",)), right, ("c", ("any",))])
        for row in wrong:
            self.no([row])
            self.no([row, ("c", ("any",))])
            self.no([("a", ("any",)), row])
            self.no([("a", ("any",)), row, ("c", ("any",))])

    def test_a_tuple_or_dict_in_the_place_of_the_list(self):
        rules = [("a", ("any",)), ("b", ("any",))]
        self.no(tuple(rules))
        self.no(dict(rules))
        self.no(())
        self.no({})
        self.no(rules[0])
        self.no([rules])

    def test_things_of_other_kinds(self):
        for thing in helper.odd_things():
            if thing == []:
                continue
            self.no(thing)
            self.no([thing])
            self.no([("a", ("any",)), thing])
            self.no([("a", thing)])
            self.no([(thing, thing)])
            if thing != "none":
                self.no([(thing, ("any",))])

    def test_what_is_handed_in_stays(self):
        for book in ([("b", ("any",)), ("a", ("any",))], [["a", ["any"]]], [("a", ("row", "b", "b"))]):
            before = copy.deepcopy(book)
            is_book(book)
            self.assertEqual(book, before)


class EmptyRules(unittest.TestCase):
    def told(self, book, names):
        self.assertEqual(empty_rules(book), names, book)

    def test_no_rules(self):
        self.told([], [])

    def test_each_word_by_itself(self):
        for form, empty, begun in SINGLE.values():
            self.told([("a", form)], ["a"] if empty else [])

    def test_words_that_are_so_whatever_their_part(self):
        for word in ("again", "ahead", "not"):
            for part in ("none", "any"):
                self.told([("a", (word, "b")), ("b", (part,))], ["a", "b"] if part == "none" else ["a"])
            self.told([("a", (word, "a"))], ["a"])

    def test_rows(self):
        rest = [("c", ("any",)), ("e", ("none",)), ("f", ("again", "c"))]
        for parts, empty in (("e", True), ("ef", True), ("eeee", True), ("efefefef", True), ("c", False),
                             ("ec", False), ("ce", False), ("efc", False), ("x", False), ("ex", False),
                             ("xe", False), ("efefefex", False)):
            names = (["b"] if empty else []) + ["e", "f"]
            self.told([("b", ("row",) + tuple(parts))] + rest, names)

    def test_firsts(self):
        rest = [("c", ("any",)), ("e", ("none",)), ("f", ("signs", "c"))]
        for parts, empty in (("e", True), ("ce", True), ("ec", True), ("cfcfcfce", True), ("c", False),
                             ("cf", False), ("x", False), ("xe", True), ("ex", True), ("xc", False),
                             ("cfxcfxcf", False)):
            names = (["b"] if empty else []) + ["e"]
            self.told([("b", ("first",) + tuple(parts))] + rest, names)

    def test_round_about(self):
        self.told([("a", ("row", "a"))], [])
        self.told([("a", ("first", "a"))], [])
        self.told([("a", ("row", "b")), ("b", ("row", "a"))], [])
        self.told([("a", ("first", "b")), ("b", ("first", "a"))], [])
        self.told([("a", ("first", "b")), ("b", ("first", "a", "c")), ("c", ("none",))], ["a", "b", "c"])
        self.told([("a", ("row", "b")), ("b", ("row", "a", "c")), ("c", ("none",))], ["c"])
        self.told([("a", ("row", "b")), ("b", ("again", "a"))], ["a", "b"])
        self.told([("a", ("first", "a", "b")), ("b", ("not", "a"))], ["a", "b"])

    def test_chains_of_thirty_in_any_order(self):
        for many in (30, 45):
            names = helper.many_names(many)
            for order in helper.orders(names):
                for word in ("row", "first"):
                    for last in (("none",), ("not", "lacking")):
                        self.told(helper.chain(order, word, last), names)
                    for last in (("any",), (word, "lacking"), (word, order[0])):
                        self.told(helper.chain(order, word, last), [])

    def test_small_and_random_books(self):
        for book in helper.small_books() + helper.random_books(1, 1500, 8):
            self.told(book, helper.true_empty(book))

    def test_the_list_is_new_and_the_book_stays(self):
        book = [("a", ("none",)), ("b", ("row", "a"))]
        before = copy.deepcopy(book)
        told = empty_rules(book)
        self.assertIs(type(told), list)
        told.clear()
        self.told(book, ["a", "b"])
        self.assertEqual(book, before)
        book.pop(0)
        self.told(book, [])


class Begins(unittest.TestCase):
    def told(self, book, name, names):
        self.assertEqual(begins(book, name), names, (book, name))

    def test_each_word_by_itself(self):
        for form, empty, begun in SINGLE.values():
            self.told([("a", form)], "a", begun)
            self.told([("a", form), ("b", ("none",)), ("c", ("first", "a"))], "a", begun)

    def test_rows(self):
        rest = [("c", ("any",)), ("e", ("none",)), ("f", ("not", "c")), ("g", ("row", "e", "f"))]
        for parts, names in (("c", "c"), ("ce", "c"), ("ec", "ce"), ("efc", "cef"), ("feceg", "cef"), ("gfe", "efg"),
                             ("gcfe", "cg"), ("x", "x"), ("xe", "x"), ("ex", "ex"), ("gxe", "gx"), ("eex", "ex"),
                             ("xx", "x"), ("b", "b"), ("eb", "be"), ("bec", "b"), ("geegeefc", "cefg"),
                             ("geegeeff", "efg"), ("zc", "z")):
            self.told([("b", ("row",) + tuple(parts))] + rest, "b", list(names))

    def test_firsts(self):
        rest = [("c", ("any",)), ("e", ("none",))]
        for parts, names in (("c", "c"), ("ce", "ce"), ("ec", "ce"), ("zxec", "cexz"), ("cc", "c"), ("bb", "b"),
                             ("ecbecbec", "bce")):
            self.told([("b", ("first",) + tuple(parts))] + rest, "b", list(names))

    def test_a_name_that_the_book_lacks(self):
        book = [("b", ("row", "c", "d")), ("d", ("any",))]
        for name in ("a", "c", "e", "bb", "x", "bcdefghi"):
            for lacking in ([], book):
                before = copy.deepcopy(lacking)
                with self.assertRaises(NoRule):
                    begins(lacking, name)
                self.assertEqual(lacking, before)

    def test_small_and_random_books(self):
        for book in helper.small_books() + helper.random_books(2, 1500, 8):
            for name, form in book:
                self.told(book, name, helper.true_begins(book, name))

    def test_the_list_is_new_and_the_book_stays(self):
        for form in (("row", "c", "b"), ("first", "c", "b"), ("not", "b"), ("any",)):
            book = [("a", form), ("c", ("none",))]
            before = copy.deepcopy(book)
            told = begins(book, "a")
            self.assertIs(type(told), list)
            expected = list(told)
            told.append("more")
            self.told(book, "a", expected)
            self.assertEqual(book, before)


class Loop(unittest.TestCase):
    def check(self, book):
        before = copy.deepcopy(book)
        ring = loop(book)
        self.assertEqual(book, before)
        if not helper.true_loops(book):
            self.assertIsNone(ring, book)
            return None
        self.assertIs(type(ring), list, book)
        self.assertTrue(ring, book)
        self.assertEqual(len(set(ring)), len(ring), (book, ring))
        self.assertLessEqual(set(ring), {name for name, form in book}, (book, ring))
        for name, following in zip(ring, ring[1:] + ring[:1]):
            self.assertIn(following, helper.true_begins(book, name), (book, ring))
        return ring

    def none(self, book):
        self.assertIsNone(self.check(book))

    def ring(self, book, names):
        told = self.check(book)
        self.assertIsNotNone(told, book)
        self.assertEqual(sorted(told), sorted(names), book)

    def test_books_with_no_ring(self):
        self.none([])
        for form, empty, begun in SINGLE.values():
            self.none([("a", form)])
            self.none([("a", form), ("b", ("any",))])
            self.none([("a", form), ("b", ("none",))])
        self.none([("a", ("row", "b", "a")), ("b", ("any",))])
        self.none([("a", ("first", "b", "c")), ("b", ("row", "c", "a")), ("c", ("signs", "x"))])
        self.none([("a", ("first", "b", "c")), ("b", ("first", "d")), ("c", ("first", "d")), ("d", ("any",))])

    def test_a_rule_that_begins_with_itself(self):
        for word in ("row", "first", "again", "ahead", "not"):
            self.ring([("a", (word, "a"))], ["a"])
            self.ring([("a", ("any",)), ("b", (word, "b")), ("c", ("none",))], ["b"])
            self.ring([("a", (word, "b")), ("b", (word, "b"))], ["b"])

    def test_rings_of_two(self):
        words = ("row", "first", "again", "ahead", "not")
        for one in words:
            for two in words:
                self.ring([("a", (one, "b")), ("b", (two, "a"))], ["a", "b"])
                self.ring([("a", (one, "b")), ("b", (two, "c")), ("c", (one, "b")), ("d", ("any",))], ["b", "c"])

    def test_rings_of_many(self):
        for many in (3, 7, 30, 45):
            names = helper.many_names(many)
            for order in helper.orders(names):
                for word in ("row", "first", "again", "ahead", "not"):
                    self.ring(helper.chain(order, word, (word, order[0])), names)
                    self.none(helper.chain(order, word, (word, "lacking")))
                    self.none(helper.chain(order, word, ("any",)))

    def test_a_ring_with_a_tail(self):
        names = helper.many_names(30)
        for order in helper.orders(names):
            for back in (0, 10, 28, 29):
                self.ring(helper.chain(order, "first", ("row", order[back])), order[back:])

    def test_closed_only_by_way_of_a_part_that_may_be_empty(self):
        rest = [("c", ("any",)), ("e", ("none",)), ("f", ("again", "c"))]
        self.ring([("b", ("row", "e", "b"))] + rest, ["b"])
        self.ring([("b", ("row", "e", "f", "e", "b"))] + rest, ["b"])
        self.ring([("a", ("row", "f", "b")), ("b", ("row", "e", "a", "c"))] + rest, ["a", "b"])
        self.none([("b", ("row", "c", "b"))] + rest)
        self.none([("b", ("row", "e", "c", "b"))] + rest)
        self.none([("a", ("row", "f", "b")), ("b", ("row", "c", "a"))] + rest)

    def test_names_that_the_book_lacks(self):
        self.none([("a", ("row", "x", "a"))])
        self.none([("a", ("first", "x", "y"))])
        self.none([("a", ("row", "e", "x", "a")), ("e", ("none",))])
        self.none([("a", ("first", "b")), ("c", ("first", "a"))])
        self.ring([("a", ("first", "x", "a"))], ["a"])
        self.ring([("a", ("row", "e", "a", "x")), ("e", ("none",))], ["a"])

    def test_small_and_random_books(self):
        rings = 0
        books = helper.small_books() + helper.random_books(3, 2500, 8)
        for book in books:
            rings += self.check(book) is not None
        self.assertGreater(rings, 500)
        self.assertGreater(len(books) - rings, 500)

    def test_the_ring_is_new(self):
        book = [("a", ("row", "b")), ("b", ("first", "a"))]
        told = loop(book)
        expected = list(told)
        told.clear()
        self.assertEqual(loop(book), expected)


if __name__ == "__main__":
    unittest.main()
