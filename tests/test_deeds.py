import random
import unittest

import helper
from keptreading.errors import Loops, NoDeed, NoRule
from keptreading.reader import Reader, laid
from keptreading.stays import behind_put, behind_rule

NUMBERS = [
    ("digit", ("signs", "0123456789")),
    ("more", ("again", "digit")),
    ("number", ("row", "digit", "more")),
]


class Deeds(unittest.TestCase):
    # A reader with every reading of its rules, and of one that it lacks, made and kept.
    def full(self, book, text):
        reader = laid(book, text, [])
        for name in [name for name, form in book] + ["lacking"]:
            for place in range(len(text) + 1):
                reader.read(name, place)
        return reader

    def kept_ones(self, reader):
        return ["{}{}".format(row[1], row[2]) for row in sorted(reader.kept(), key=lambda row: row[1:3])]

    # The state is what is told, and each kept row is what reading from nothing tells.
    def stands(self, reader, text, book, rows, made):
        self.assertEqual(helper.state(reader), (text, book, rows, made))
        truth = helper.Truth(book, text)
        self.assertEqual(rows, [truth.row(*row[:3]) for row in rows])

    def put(self, reader, a, b, signs):
        text, book, rows, made = helper.state(reader)
        self.assertIsNone(reader.put(a, b, signs))
        self.stands(reader, text[:a] + signs + text[b:], book, behind_put(rows, a, b, len(signs)), made)

    def change(self, reader, name, form):
        text, book, rows, made = helper.state(reader)
        self.assertIsNone(reader.drop(name) if form is None else reader.rule(name, form))
        others = [rule for rule in book if rule[0] != name]
        new = sorted(others + ([] if form is None else [(name, form)]))
        self.stands(reader, text, new, behind_rule(rows, name), made)


class Put(Deeds):
    def test_at_the_ends(self):
        reader = self.full(NUMBERS, "12")
        self.put(reader, 0, 0, "34")
        self.assertEqual(reader.text(), "3412")
        self.put(reader, 4, 4, "5x")
        self.assertEqual(reader.text(), "34125x")
        self.assertEqual(reader.read("number"), (5, 6))

    def test_into_the_text_without_signs(self):
        reader = self.full(NUMBERS, "")
        rows = reader.kept()
        self.put(reader, 0, 0, "12")
        self.assertEqual([row[2] for row in reader.kept()], [2] * len(rows))
        self.assertEqual(reader.read("number"), (2, 3))

    def test_over_nothing_and_of_no_signs(self):
        reader = self.full(NUMBERS, "1x2")
        self.put(reader, 1, 1, "")
        self.assertEqual(reader.text(), "1x2")
        kept = "digit0 digit1 digit2 digit3 lacking0 lacking1 lacking2 lacking3 more1 more2 more3 "
        self.assertEqual(self.kept_ones(reader), (kept + "number1 number2 number3").split())

    def test_of_no_signs_at_either_end(self):
        reader = self.full(NUMBERS, "12")
        before = helper.state(reader)
        self.put(reader, 0, 0, "")
        self.assertEqual(helper.state(reader), before)
        self.put(reader, 2, 2, "")
        kept = "digit0 digit1 digit2 lacking0 lacking1 lacking2 more2 number2"
        self.assertEqual(self.kept_ones(reader), kept.split())

    def test_over_all(self):
        for signs in ("", "1x2", "9", "99999"):
            reader = self.full(NUMBERS, "1x2")
            self.put(reader, 0, 3, signs)
            ones = [f"{name}{len(signs)}" for name in ("digit", "lacking", "more", "number")]
            self.assertEqual(self.kept_ones(reader), ones)

    def test_the_same_signs(self):
        reader = self.full(NUMBERS, "1x2")
        self.put(reader, 1, 2, "x")
        kept = "digit0 digit2 digit3 lacking0 lacking2 lacking3 more2 more3 number2 number3"
        self.assertEqual(self.kept_ones(reader), kept.split())
        made = reader.made()
        self.assertEqual(reader.read("number"), (1, 2))
        self.assertEqual(reader.made(), made + 3)

    # In the text aab+b reads "ab" at 1 reach just to 3.
    def test_the_place_and_reach_come_just_to_a(self):
        book = [("a", ("signs", "a")), ("b", ("signs", "b")), ("both", ("row", "a", "b"))]
        for a, stays in ((2, False), (3, True), (4, True)):
            for b in range(a, 6):
                for signs in ("", "b", "zzz"):
                    reader = laid(book, "aab+b", [])
                    self.assertEqual(reader.row("both", 1), (2, "both", 1, 2, 2, ["a", "b", "both"]))
                    self.put(reader, a, b, signs)
                    self.assertEqual("both1" in self.kept_ones(reader), stays)
                    self.assertEqual("a1" in self.kept_ones(reader), True)
                    made = reader.made()
                    reader.read("both", 1)
                    self.assertEqual(reader.made() == made, stays)

    def test_one_that_begins_at_b_is_moved_and_one_ahead_of_it_goes(self):
        book = [("a", ("any",)), ("two", ("row", "a", "a"))]
        for a in range(3):
            for signs in ("", "x", "xyzuv"):
                reader = laid(book, "abcdef", [])
                reader.read("two", 2)
                reader.read("two", 3)
                self.put(reader, a, 3, signs)
                at = a + len(signs)
                self.assertEqual([row[:3] for row in reader.kept()],
                                 [(1, "a", at), (3, "a", at + 1), (4, "two", at)])
                made = reader.made()
                self.assertEqual(reader.read("two", at), (2, 2))
                self.assertEqual(reader.made(), made)

    def test_a_reading_that_looked_at_the_end(self):
        reader = laid(NUMBERS, "12", [])
        self.assertEqual(reader.read("more"), (2, 3))
        self.put(reader, 2, 2, "3")
        self.assertEqual(self.kept_ones(reader), ["digit0", "digit1", "digit3"])
        self.assertEqual(reader.read("more"), (3, 4))
        self.put(reader, 2, 3, "")
        self.assertEqual(reader.read("more"), (2, 3))

    def test_everywhere(self):
        for book, text in helper.read_cases(511, 30, 4):
            for a in range(len(text) + 1):
                for b in range(a, len(text) + 1):
                    for signs in ("", text[a:b], "x", "ab+"):
                        self.put(self.full(book, text), a, b, signs)

    def test_beyond_four_hundred_signs(self):
        reader = laid(NUMBERS, "7" * 399, [])
        for turn in range(5):
            reader.read("number", len(reader.text()) // 2)
            self.put(reader, len(reader.text()), len(reader.text()), "8" * 400)
            self.put(reader, 0, 0, "9" * 400)
        many = 399 + 10 * 400
        self.assertEqual(reader.text(), "9" * 2000 + "7" * 399 + "8" * 2000)
        self.assertEqual(reader.read("number"), (many, many + 1))
        self.assertEqual(reader.read("number", many), (None, 1))
        for turn in range(10):
            reader.undo()
        self.assertEqual(reader.text(), "7" * 399)


class RuleAndDrop(Deeds):
    def test_a_rule_that_the_book_has(self):
        reader = self.full(NUMBERS, "1x2")
        self.change(reader, "more", ("row", "digit", "digit"))
        kept = "digit0 digit1 digit2 digit3 lacking0 lacking1 lacking2 lacking3 number1 number3"
        self.assertEqual(self.kept_ones(reader), kept.split())
        self.assertEqual(reader.read("number"), (None, 2))

    def test_a_rule_that_the_book_lacks(self):
        reader = self.full(NUMBERS, "1x2")
        before = reader.kept()
        self.change(reader, "letter", ("signs", "xy"))
        self.assertEqual(reader.kept(), before)
        self.assertEqual(reader.read("letter", 1), (1, 1))

    def test_the_same_form(self):
        for name, form in NUMBERS:
            reader = self.full(NUMBERS, "1x2")
            self.change(reader, name, form)
            self.assertEqual([row for row in reader.kept() if row[1] == name], [])
            self.assertEqual(reader.book(), NUMBERS)

    def test_what_leaned_on_a_name_that_the_book_lacked(self):
        book = [("a", ("any",)), ("either", ("first", "x", "a")), ("free", ("row", "a", "a"))]
        reader = laid(book, "pq", [])
        self.assertEqual(reader.row("either"), (2, "either", 0, 1, 1, ["a", "either", "x"]))
        reader.read("free")
        reader.read("x", 1)
        self.change(reader, "x", ("row", "a", "a"))
        self.assertEqual(self.kept_ones(reader), ["a0", "a1", "free0"])
        self.assertEqual(reader.read("either"), (2, 2))
        self.assertEqual(reader.read("x", 1), (None, 2))
        self.change(reader, "x", None)
        self.assertEqual(self.kept_ones(reader), ["a0", "a1", "a2", "free0"])
        self.assertEqual(reader.read("either"), (1, 1))

    def test_drop(self):
        reader = self.full(NUMBERS, "1x2")
        self.change(reader, "digit", None)
        self.assertEqual(self.kept_ones(reader), ["lacking0", "lacking1", "lacking2", "lacking3"])
        self.assertEqual(reader.read("number"), (None, 1))
        self.assertEqual(reader.read("more"), (0, 1))
        self.assertEqual(reader.read("digit"), (None, 1))
        self.assertRaises(NoRule, reader.drop, "digit")

    def test_rules_that_would_loop(self):
        reader = self.full(NUMBERS, "1x2")
        before = helper.state(reader)
        for name, form in (("digit", ("row", "more")), ("more", ("again", "more")), ("self", ("not", "self")),
                           ("digit", ("first", "other", "number")), ("more", ("row", "more")),
                           ("digit", ("ahead", "more"))):
            self.assertRaises(Loops, reader.rule, name, form)
            self.assertEqual(helper.state(reader), before)
        self.assertRaises(NoDeed, reader.undo)
        self.change(reader, "more", ("ahead", "number"))

    def test_a_loop_that_comes_of_a_rule_that_may_be_empty(self):
        reader = laid([("a", ("any",)), ("b", ("row", "a", "b"))], "xy", [])
        reader.read("b")
        before = helper.state(reader)
        self.assertRaises(Loops, reader.rule, "a", ("none",))
        self.assertEqual(helper.state(reader), before)
        self.change(reader, "b", ("row", "a", "a"))
        self.change(reader, "a", ("none",))
        self.assertRaises(Loops, reader.rule, "b", ("row", "a", "b"))
        self.assertEqual(reader.read("b"), (0, 1))

    def test_every_small_change(self):
        forms = helper.small_forms()
        dice = random.Random(512)
        for book in dice.sample(helper.small_sound_books(), 150):
            for name in ("a", "b", "c", "e"):
                for form in dice.sample(forms, 4) + [None]:
                    reader = self.full(book, "xy")
                    before = helper.state(reader)
                    new = sorted([rule for rule in book if rule[0] != name] + ([(name, form)] if form else []))
                    if form is None and name not in dict(book):
                        self.assertRaises(NoRule, reader.drop, name)
                    elif helper.true_loops(new):
                        self.assertRaises(Loops, reader.rule, name, form)
                    else:
                        self.change(reader, name, form)
                        continue
                    self.assertEqual(helper.state(reader), before)

    def test_more_than_thirty_rules(self):
        names = helper.many_names(80)
        for order in helper.orders(names):
            reader = Reader()
            reader.put(0, 0, "xy")
            book = helper.chain(order, "row", ("any",))
            for name, form in book:
                reader.rule(name, form)
            self.assertEqual(reader.book(), book)
            self.assertEqual(reader.read(order[0]), (1, 1))
            self.assertEqual(reader.row(order[0])[5], sorted(names))
            self.assertEqual(reader.made(), 80)
            self.change(reader, order[40], ("none",))
            self.assertEqual(reader.read(order[0]), (0, 1))
            self.assertEqual(reader.made(), 121)


class Undo(Deeds):
    def undo(self, reader, text, book, stay):
        made = reader.made()
        self.assertIsNone(reader.undo())
        self.stands(reader, text, book, stay, made)

    def test_of_a_put(self):
        for a, b, signs in ((0, 0, "34"), (3, 3, "5"), (1, 2, ""), (1, 2, "x"), (1, 1, ""), (0, 3, ""), (0, 2, "777")):
            reader = self.full(NUMBERS, "1x2")
            reader.put(a, b, signs)
            for place in range(len(reader.text()) + 1):
                reader.read("number", place)
            stay = behind_put(reader.kept(), a, a + len(signs), b - a)
            self.undo(reader, "1x2", NUMBERS, stay)
            self.assertRaises(NoDeed, reader.undo)

    def test_of_a_put_by_hand(self):
        reader = laid(NUMBERS, "1x2", [])
        reader.put(1, 2, "34")
        self.assertEqual(reader.read("number"), (4, 5))
        self.assertEqual(reader.read("more", 3), (1, 2))
        reader.undo()
        self.assertEqual([row[:3] for row in reader.kept()], [(0, "digit", 0), (3, "digit", 2), (4, "digit", 3),
                                                              (7, "more", 2)])
        self.assertEqual(reader.read("number"), (1, 2))

    def test_of_a_rule_and_a_drop(self):
        for name, form in (("more", ("none",)), ("more", ("again", "digit")), ("letter", ("any",)), ("digit", None)):
            reader = self.full(NUMBERS, "1x2")
            reader.drop(name) if form is None else reader.rule(name, form)
            for one in ("number", "more", "digit", "letter", "lacking"):
                reader.read(one, 1)
                reader.read(one, 3)
            self.undo(reader, "1x2", NUMBERS, behind_rule(reader.kept(), name))
            self.assertEqual(reader.read("letter", 1), (None, 1))
            self.assertRaises(NoDeed, reader.undo)

    def test_several_in_a_row_and_behind_new_deeds(self):
        reader = Reader()
        reader.rule("a", ("any",))
        reader.put(0, 0, "xy")
        reader.rule("a", ("none",))
        reader.drop("a")
        reader.undo()
        self.assertEqual((reader.text(), reader.book()), ("xy", [("a", ("none",))]))
        reader.put(2, 2, "z")
        reader.undo()
        reader.undo()
        self.assertEqual((reader.text(), reader.book()), ("xy", [("a", ("any",))]))
        reader.undo()
        self.assertEqual((reader.text(), reader.book()), ("", [("a", ("any",))]))
        reader.undo()
        self.assertEqual((reader.text(), reader.book()), ("", []))
        for turn in range(2):
            self.assertRaises(NoDeed, reader.undo)

    def test_an_undo_is_not_itself_undone(self):
        reader = Reader()
        for signs in ("a", "b", "c"):
            reader.put(0, 0, signs)
        for text in ("ba", "a", ""):
            reader.undo()
            self.assertEqual(reader.text(), text)
        self.assertRaises(NoDeed, reader.undo)

    def test_questions_sweeps_and_refusals_are_no_deeds(self):
        reader = laid(NUMBERS, "12", [])
        reader.put(0, 0, "3")
        reader.read("number")
        reader.sweep("digit")
        reader.forget()
        self.assertRaises(Loops, reader.rule, "more", ("again", "more"))
        self.assertRaises(NoRule, reader.drop, "lacking")
        reader.undo()
        self.assertEqual(reader.text(), "12")
        self.assertRaises(NoDeed, reader.undo)


class SweepAndForget(Deeds):
    def test_what_stays(self):
        reader = self.full(NUMBERS, "1x2")
        rows = reader.kept()
        self.assertEqual(reader.sweep("number"), len(rows) - 4)
        stay = [row for row in rows if row[1:3] in (("digit", 0), ("digit", 1), ("more", 1), ("number", 0))]
        self.assertEqual(reader.kept(), stay)
        self.assertEqual(reader.sweep("number"), 0)
        self.assertEqual(reader.sweep("digit", 1), 3)
        self.assertEqual(reader.made(), len(rows))

    def test_of_a_reading_that_is_not_kept(self):
        reader = laid(NUMBERS, "1x2", [])
        reader.read("more", 0)
        self.assertEqual(reader.made(), 3)
        self.assertEqual(reader.sweep("number"), 1)
        self.assertEqual([row[:3] for row in reader.kept()],
                         [(0, "digit", 0), (1, "digit", 1), (3, "more", 1), (4, "number", 0)])
        self.assertEqual(reader.made(), 5)
        self.assertEqual(reader.sweep("lacking", 3), 4)
        self.assertEqual(reader.kept(), [(5, "lacking", 3, None, 1, ["lacking"])])

    def test_against_the_model(self):
        for turn, (book, text) in enumerate(helper.read_cases(513, 150, 6)):
            dice = random.Random(turn)
            reader, model = laid(book, text, []), helper.Model(book, text)
            every = model.truth.every([name for name, form in book] + ["z"])
            for one in dice.sample(every, min(8, len(every))):
                for other in dice.sample(every, min(2, len(every))):
                    reader.read(*other)
                    model.ask(*other)
                told = reader.sweep(*one)
                self.assertEqual(told, model.sweep(*one))
                self.assertIs(type(told), int)
                self.assertEqual(helper.state(reader), helper.state_of_model(model))

    def test_forget(self):
        reader = self.full(NUMBERS, "1x2")
        many = reader.made()
        told = reader.forget()
        self.assertEqual((told, type(told)), (many, int))
        self.assertEqual(helper.state(reader), ("1x2", NUMBERS, [], many))
        self.assertEqual(reader.forget(), 0)
        self.assertEqual(reader.read("number"), (1, 2))
        self.assertEqual([row[0] for row in reader.kept()], [many, many + 1, many + 2, many + 3])


if __name__ == "__main__":
    unittest.main()
