import copy
import random
import unittest

import helper
from keptreading import errors
from keptreading.errors import NoDeed, NoForm, NoName, NoPlace, NoRule, NoText, Loops, TooMany
from keptreading.papers import paper
from keptreading.reader import Reader, laid
from keptreading.readings import reading, tree

NUMBERS = [
    ("digit", ("signs", "0123456789")),
    ("more", ("again", "digit")),
    ("number", ("row", "digit", "more")),
]
# Each rule made of two of the next one, so that the tree of the last one has one row less than 2 ** 11.
DOUBLED = [(name, ("row", after, after)) for name, after in zip("abcdefghij", "bcdefghijk")] + [("k", ("none",))]
ASKERS = ("read", "row", "asked", "paper", "tree", "sweep")


class Asked(unittest.TestCase):
    def told(self, found, expected, words=None):
        self.assertEqual(found, expected, words)
        self.assertEqual(helper.kinds(found), helper.kinds(expected), words)

    def all_told(self, reader, name, place, words=None):
        text, book = reader.text(), reader.book()
        length, reach, asked, leans = reading(book, name, text, place)
        self.told(reader.read(name, place), (length, reach), words)
        self.told(reader.asked(name, place), asked, words)
        self.told(reader.tree(name, place), tree(book, name, text, place), words)
        self.told(reader.paper(name, place), paper(book, name, text, place), words)
        row = reader.row(name, place)
        self.told(row[1:], (name, place, length, reach, leans), words)
        self.assertIn(row, reader.kept())


class Questions(Asked):
    def test_a_new_reader(self):
        reader = Reader()
        self.told(helper.state(reader), ("", [], [], 0))
        self.told(reader.read("a"), (None, 1))
        self.told(reader.row("a"), (0, "a", 0, None, 1, ["a"]))
        self.told(reader.asked("a"), [])
        self.assertIsNone(reader.tree("a"))
        self.told(reader.paper("a"), ("a", None, 1, "", True, [("a", None)]))
        self.told(helper.state(reader), ("", [], [(0, "a", 0, None, 1, ["a"])], 1))
        self.told(helper.state(Reader()), ("", [], [], 0))

    def test_by_hand(self):
        reader = laid(NUMBERS, "x12+", [])
        self.told(reader.read("number", 1), (2, 3))
        self.told(reader.row("number", 1), (4, "number", 1, 2, 3, ["digit", "more", "number"]))
        self.told(reader.asked("number", 1), [("digit", 1), ("more", 2)])
        self.told(reader.tree("number", 1),
                  [(0, "number", 1, 2), (1, "digit", 1, 1), (1, "more", 2, 1), (2, "digit", 2, 1)])
        self.told(reader.paper("number", 1), ("number", 2, 3, "12+", False, NUMBERS))
        self.told(reader.read("number", 0), (None, 1))
        self.told(reader.asked("number", 0), [("digit", 0)])
        self.assertIsNone(reader.tree("number", 0))
        self.told(reader.paper("more", 4), ("more", 0, 1, "", True, NUMBERS[:2]))
        self.told(reader.read("lacking", 2), (None, 1))
        self.told(reader.text(), "x12+")
        self.told(reader.book(), NUMBERS)

    def test_every_rule_at_every_place(self):
        for turn, (book, text) in enumerate(helper.read_cases(501, 150, 6)):
            dice = random.Random(turn)
            truth = helper.Truth(book, text)
            every = truth.every([name for name, form in book] + ["z", "lacking"])
            for reader in (laid(book, text, []), helper.told_by_deeds(Reader(), book, text, dice)):
                for name, place in dice.sample(every, len(every)):
                    self.all_told(reader, name, place, (book, text, name, place))
                    self.assertEqual(reader.row(name, place)[1:], truth.row(0, name, place)[1:])

    # Each question makes the reading itself, asked first of all.
    def test_each_question_by_itself(self):
        for book, text in helper.read_cases(502, 20, 5):
            for name, place in helper.Truth(book, text).every([name for name, form in book] + ["z"]):
                told = reading(book, name, text, place)
                new = laid(book, text, [])
                self.told(new.read(name, place), told[:2])
                kept = new.kept()
                for question in ASKERS[1:]:
                    new = laid(book, text, [])
                    answer = getattr(new, question)(name, place)
                    self.assertEqual(new.kept(), kept)
                    self.assertEqual(new.made(), len(kept))
                    expected = {"row": kept[-1], "asked": told[2], "paper": paper(book, name, text, place),
                                "tree": tree(book, name, text, place), "sweep": 0}
                    self.told(answer, expected[question])

    def test_small_books(self):
        for book in helper.small_sound_books()[::7]:
            reader = laid(book, "xyx", [])
            for name, place in helper.Truth(book, "xyx").every(["a", "b", "c"]):
                self.all_told(reader, name, place, book)

    def test_place_left_out(self):
        for text in ("", "1", "12x"):
            one, other = laid(NUMBERS, text, []), laid(NUMBERS, text, [])
            for name in ("number", "more", "digit", "lacking"):
                for question in ASKERS:
                    self.told(getattr(one, question)(name), getattr(other, question)(name, 0))
            self.told(helper.state(one), helper.state(other))

    def test_text_and_book_make_nothing(self):
        reader = laid(NUMBERS, "12", [])
        for turn in range(3):
            self.told(helper.state(reader), ("12", NUMBERS, [], 0))


class Numbers(Asked):
    def names_of(self, reader):
        return [(number, name, place) for number, name, place, length, reach, leans in reader.kept()]

    def test_each_behind_those_that_it_asked(self):
        reader = laid(NUMBERS, "12", [])
        reader.read("number")
        expected = [(0, "digit", 0), (1, "digit", 1), (2, "digit", 2), (3, "more", 1), (4, "number", 0)]
        self.assertEqual(self.names_of(reader), expected)
        self.assertEqual(reader.made(), 5)

    def test_asked_again_it_makes_none(self):
        reader = laid(NUMBERS, "12", [])
        reader.read("number")
        before = helper.state(reader)
        for question in ASKERS[:-1]:
            for name, place in (("number", 0), ("digit", 2), ("more", 1)):
                getattr(reader, question)(name, place)
                self.assertEqual(helper.state(reader), before)

    def test_a_kept_reading_asks_nothing_anew(self):
        reader = laid(NUMBERS, "12", [])
        reader.read("more", 1)
        reader.read("digit", 0)
        reader.read("number", 0)
        expected = [(0, "digit", 1), (1, "digit", 2), (2, "more", 1), (3, "digit", 0), (4, "number", 0)]
        self.assertEqual(self.names_of(reader), expected)

    def test_in_the_order_of_the_table(self):
        book = [("a", ("row", "d", "c", "b")), ("b", ("first", "f", "e", "d")), ("c", ("ahead", "e")), ("d", ("any",)),
                ("e", ("signs", "x")), ("g", ("not", "a"))]
        reader = laid(book, "xx", [])
        reader.tree("g")
        expected = "d0 e1 c1 f1 b1 a0 g0".split()
        self.assertEqual([f"{name}{place}" for number, name, place in self.names_of(reader)], expected)

    def test_one_asked_twice_is_made_once(self):
        book = [("a", ("row", "b", "b", "b")), ("b", ("none",))]
        reader = laid(book, "x", [])
        self.told(reader.read("a"), (0, 1))
        self.assertEqual(self.names_of(reader), [(0, "b", 0), (1, "a", 0)])

    def test_against_the_model(self):
        for turn, (book, text) in enumerate(helper.read_cases(503, 150, 6)):
            dice = random.Random(turn)
            reader, model = laid(book, text, []), helper.Model(book, text)
            every = model.truth.every([name for name, form in book] + ["z"])
            for name, place in dice.sample(every, len(every)):
                getattr(reader, dice.choice(ASKERS[:-1]))(name, place)
                model.ask(name, place)
                self.told(helper.state(reader), helper.state_of_model(model), (book, text))

    def test_numbers_go_on(self):
        reader = laid(NUMBERS, "12", [])
        reader.read("number")
        self.assertEqual(reader.forget(), 5)
        self.assertEqual((reader.kept(), reader.made()), ([], 5))
        self.assertEqual(reader.row("digit", 1)[0], 5)
        reader.put(1, 1, "3")
        reader.undo()
        self.assertEqual(reader.row("digit", 0)[0], 6)
        self.assertEqual(reader.sweep("digit", 0), 1)
        self.assertEqual(reader.row("digit", 1)[0], 7)
        reader.drop("more")
        self.assertEqual(reader.row("number")[0], 9)
        self.assertEqual(reader.made(), 10)
        self.assertEqual([number for number, name, place in self.names_of(reader)], [6, 7, 8, 9])

    def test_kept_is_sorted_by_number(self):
        reader = laid(NUMBERS, "1234567890ab", [])
        for place in (12, 3, 7, 0, 11):
            for name in ("number", "digit", "more"):
                reader.read(name, place)
                reader.put(place, place, "5")
                numbers = [row[0] for row in reader.kept()]
                self.assertEqual(numbers, sorted(numbers))


class Trees(Asked):
    def test_a_tree_of_too_many_rows_is_made_and_kept(self):
        reader = laid(DOUBLED, "x", [])
        with self.assertRaises(TooMany):
            reader.tree("a", 1)
        model = helper.Model(DOUBLED, "x")
        model.ask("a", 1)
        self.told(helper.state(reader), helper.state_of_model(model))
        with self.assertRaises(TooMany):
            reader.tree("a", 1)
        self.told(helper.state(reader), helper.state_of_model(model))
        self.told(reader.read("a", 1), (0, 1))
        self.assertEqual(reader.made(), 11)
        self.assertEqual(len(reader.tree("b", 1)), 1023)

    def test_two_thousand_rows_and_one_more(self):
        # An again at the place 0, with a row for each sign; the rest of the rows stand around it.
        for many in (1997, 1998, 1999, 2000):
            reader = laid([("all", ("again", "one")), ("one", ("any",)), ("whole", ("row", "all"))], "", [])
            for turn in range(0, many, 400):
                reader.put(0, 0, "x" * min(400, many - turn))
            for name, rows in (("all", many + 1), ("whole", many + 2)):
                if rows > 2000:
                    self.assertRaises(TooMany, reader.tree, name)
                else:
                    self.assertEqual(len(reader.tree(name)), rows)
                self.assertEqual(reader.read(name), (many, many + 1))

    def test_wrong_arguments_ahead_of_too_many(self):
        reader = laid(DOUBLED, "x", [])
        for name, place, refusal in (("A", 0, NoName), ("a", 2, NoPlace), ("A", 2, NoName)):
            self.assertRaises(refusal, reader.tree, name, place)
        self.told(helper.state(reader), ("x", DOUBLED, [], 0))


class Refused(Asked):
    def setUp(self):
        wrong = helper.wrong_arguments(errors)
        self.names, self.texts, self.places = wrong[2][1], wrong[3][1], wrong[4][1]
        self.forms = [("row",), ("any", "a"), ("signs", "ba"), ("signs", ""), ["any"], ("again", "a", "b"),
                      ("row",) + ("a",) * 9, ("None",), "any", ("not", "A"), ("first", ""), ("signs", "%")]
        self.forms += helper.odd_things()

    def refused(self, refusal, question, *arguments):
        reader = laid(helper.SOUND, "ab", [])
        reader.put(2, 2, "x")
        reader.put(2, 3, "")
        reader.read("b")
        before = helper.state(reader)
        with self.assertRaises(refusal, msg=repr((question, arguments))[:200]):
            getattr(reader, question)(*arguments)
        self.told(helper.state(reader), before)
        reader.undo()
        self.assertEqual(reader.text(), "abx")

    def test_questions(self):
        for question in ASKERS:
            for name in self.names:
                self.refused(NoName, question, name)
                self.refused(NoName, question, name, 1)
            for place in self.places:
                self.refused(NoPlace, question, "b", place)
                self.refused(NoPlace, question, "lacking", place)
            for turn in range(max(len(self.names), len(self.places))):
                both = (self.names[turn % len(self.names)], self.places[turn % len(self.places)])
                self.refused(NoName, question, *both)

    def test_put(self):
        for place in self.places + [1, 2]:
            self.refused(NoPlace, "put", place, 0, "x")
            self.refused(NoPlace, "put", place, 0, 7)
        for place in self.places:
            self.refused(NoPlace, "put", 0, place, "x")
            self.refused(NoPlace, "put", 0, place, "%")
            self.refused(NoPlace, "put", place, place, "x")
            self.refused(NoPlace, "put", place, place, None)
        self.refused(NoPlace, "put", 2, 1, "x")
        self.refused(NoPlace, "put", 3, 2, "x")
        self.refused(NoPlace, "put", 1, 3, "x")
        self.refused(NoPlace, "put", -1, 1, "x")
        for text in self.texts:
            for a, b in ((0, 0), (0, 2), (2, 2), (1, 1)):
                self.refused(NoText, "put", a, b, text)

    def test_rule(self):
        loops = [("not", "b"), ("row", "a", "b"), ("again", "a")]
        for form in self.forms:
            self.refused(NoForm, "rule", "a", form)
        for name in self.names:
            self.refused(NoName, "rule", name, ("any",))
            self.refused(NoName, "rule", name, ("again", "a"))
            self.refused(NoName, "rule", name, None)
        for form in loops:
            self.refused(Loops, "rule", "a", form)
        for turn in range(max(len(self.names), len(self.forms))):
            self.refused(NoName, "rule", self.names[turn % len(self.names)], self.forms[turn % len(self.forms)])

    def test_drop(self):
        for name in self.names + ["c", "aa", "lacking"]:
            self.refused(NoRule, "drop", name)

    def test_undo(self):
        reader = laid(helper.SOUND, "ab", [])
        reader.read("b")
        before = helper.state(reader)
        self.assertRaises(NoDeed, reader.undo)
        self.told(helper.state(reader), before)
        self.assertRaises(NoDeed, Reader().undo)

    def test_things_equal_to_everything(self):
        alike = helper.Alike()
        for question in ASKERS:
            self.refused(NoName, question, alike)
            self.refused(NoPlace, question, "b", alike)
        self.refused(NoPlace, "put", alike, 0, "")
        self.refused(NoPlace, "put", 0, alike, "")
        self.refused(NoText, "put", 0, 0, alike)
        self.refused(NoName, "rule", alike, ("any",))
        self.refused(NoForm, "rule", "a", alike)
        self.refused(NoForm, "rule", "a", (alike,))
        self.refused(NoForm, "rule", "a", ("row", alike))
        self.refused(NoRule, "drop", alike)


class TheAskersOwn(Asked):
    def spoil(self, thing):
        for one in helper.lists_within(thing):
            one.append("spoiled")
            one.reverse()

    def questions(self, reader):
        told = [reader.kept(), reader.book()]
        for name, place in (("number", 0), ("more", 1), ("digit", 2), ("lacking", 1)):
            told += [reader.row(name, place), reader.asked(name, place), reader.paper(name, place),
                     reader.tree(name, place)]
        return told + [reader.kept()]

    def test_what_is_done_to_told_lists_changes_nothing(self):
        reader = laid(NUMBERS, "12x", [])
        self.questions(reader)
        first = self.questions(reader)
        expected = copy.deepcopy(first)
        lists = [id(one) for one in helper.lists_within(first)]
        self.assertEqual(len(set(lists)), len(lists))
        self.spoil(first)
        self.told(self.questions(reader), expected)
        for one in helper.lists_within(self.questions(reader)):
            one.clear()
        self.told(self.questions(reader), expected)

    def test_nothing_done_later_changes_told_lists(self):
        reader = laid(NUMBERS, "12x", [])
        told = self.questions(reader)
        expected = copy.deepcopy(told)
        reader.put(0, 2, "7777")
        reader.rule("more", ("none",))
        reader.drop("digit")
        self.questions(reader)
        reader.undo()
        reader.sweep("number")
        reader.forget()
        self.questions(reader)
        self.told(told, expected)

    def test_what_is_handed_in_is_not_changed(self):
        book, rows = copy.deepcopy(NUMBERS), [(3, "digit", 0, 1, 1, ["digit"])]
        reader = laid(book, "12x", rows)
        self.questions(reader)
        reader.rule("more", ("none",))
        reader.drop("digit")
        reader.put(0, 3, "")
        reader.forget()
        self.told(book, NUMBERS)
        self.told(rows, [(3, "digit", 0, 1, 1, ["digit"])])


if __name__ == "__main__":
    unittest.main()
