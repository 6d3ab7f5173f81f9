import copy
import random
import unittest

import helper
from keptreading import errors
from keptreading.errors import Loops, NoBook, NoDeed, NoRows, NoText
from keptreading.reader import Reader, laid
from keptreading.stays import are_rows

NUMBERS = [
    ("digit", ("signs", "0123456789")),
    ("more", ("again", "digit")),
    ("number", ("row", "digit", "more")),
]
# All that reading "number" at 1 of "x12+" asks, with gaps in the numbers, in a mixed order.
ROWS = [
    (12, "number", 1, 2, 3, ["digit", "more", "number"]), (0, "digit", 3, None, 1, ["digit"]),
    (90, "more", 2, 1, 2, ["digit", "more"]), (7, "digit", 1, 1, 1, ["digit"]), (8, "digit", 2, 1, 1, ["digit"]),
]


# Rows of several readings and all that they ask, in any order with gaps in their numbers.
def some_rows(dice, truth, names):
    starts = dice.sample(truth.every(names), dice.randint(0, 3))
    below = sorted({one for start in starts for one in truth.below(*start)})
    numbers = dice.sample(range(4 * len(below) + 1), len(below))
    return [truth.row(numbers.pop(), *one) for one in dice.sample(below, len(below))]


class Laid(unittest.TestCase):
    def test_a_reader(self):
        self.assertIs(type(laid([], "", [])), Reader)
        self.assertEqual(helper.state(laid([], "", [])), helper.state(Reader()))

    def test_from_no_rows(self):
        reader = laid(NUMBERS, "x12+", [])
        self.assertEqual(helper.state(reader), ("x12+", NUMBERS, [], 0))
        self.assertRaises(NoDeed, reader.undo)
        self.assertEqual(reader.row("digit")[0], 0)
        self.assertEqual(reader.row("digit", 1)[0], 1)
        self.assertEqual(reader.made(), 2)

    def test_from_rows_with_gaps_in_any_order(self):
        for turn in range(20):
            rows = random.Random(turn).sample(ROWS, len(ROWS))
            reader = laid(NUMBERS, "x12+", rows)
            self.assertEqual(helper.state(reader), ("x12+", NUMBERS, sorted(ROWS), 0))
            self.assertRaises(NoDeed, reader.undo)
            self.assertEqual(reader.read("number", 1), (2, 3))
            self.assertEqual(reader.asked("more", 2), [("digit", 2), ("digit", 3)])
            self.assertEqual(len(reader.tree("number", 1)), 4)
            self.assertEqual(reader.made(), 0)
            self.assertEqual(reader.row("digit", 0)[0], 91)
            self.assertEqual(reader.row("more", 4)[0], 93)
            self.assertEqual(reader.made(), 3)

    def test_the_greatest_number_may_go(self):
        reader = laid(NUMBERS, "x12+", ROWS)
        self.assertEqual(reader.sweep("digit", 1), 4)
        self.assertEqual(reader.row("digit", 0)[0], 91)
        self.assertEqual(reader.forget(), 2)
        self.assertEqual(reader.row("digit", 0)[0], 92)

    def test_great_numbers(self):
        for number in (0, 1, 10 ** 59, 10 ** 60 - 1):
            reader = laid([], "x", [(number, "a", 1, None, 1, ["a"])])
            self.assertEqual(reader.row("a", 1)[0], number)
            self.assertEqual(reader.row("a", 0)[0], number + 1)
            self.assertEqual(reader.row("b", 0)[0], number + 2)
            self.assertEqual(reader.made(), 2)

    def test_deeds_behind_it(self):
        reader = laid(NUMBERS, "x12+", ROWS)
        reader.put(0, 1, "")
        self.assertEqual(reader.row("number"), (12, "number", 0, 2, 3, ["digit", "more", "number"]))
        reader.rule("more", ("none",))
        self.assertEqual([row[0] for row in reader.kept()], [0, 7, 8])
        reader.undo()
        reader.undo()
        self.assertEqual((reader.text(), reader.book()), ("x12+", NUMBERS))
        self.assertRaises(NoDeed, reader.undo)

    def test_from_what_another_reader_keeps(self):
        for turn, (book, text) in enumerate(helper.read_cases(521, 100, 6)):
            dice = random.Random(turn)
            truth = helper.Truth(book, text)
            names = [name for name, form in book] + ["z"]
            rows = some_rows(dice, truth, names)
            reader = laid(book, text, rows)
            model = helper.Model(book, text, {(row[1], row[2]): row[0] for row in rows})
            for one in dice.sample(truth.every(names), 4):
                reader.read(*one)
                model.ask(*one)
                self.assertEqual(helper.state(reader), helper.state_of_model(model))
            again = laid(reader.book(), reader.text(), reader.kept())
            self.assertEqual(helper.state(again)[:3], helper.state(reader)[:3])
            self.assertEqual(again.made(), 0)
            for one in truth.every(names):
                self.assertEqual(again.row(*one), reader.row(*one))

    def test_beyond_the_bounds_of_what_is_handed_in(self):
        reader = Reader()
        for name, form in helper.chain(helper.many_names(40), "row", ("any",)):
            reader.rule(name, form)
        reader.put(0, 0, "x" * 400)
        reader.put(0, 0, "y" * 100)
        for place in range(0, 501, 4):
            reader.read("raa", place)
        self.assertGreater(len(reader.kept()), 4000)
        other = laid(reader.book(), reader.text(), reader.kept())
        self.assertEqual(helper.state(other)[:3], helper.state(reader)[:3])


class Refused(unittest.TestCase):
    def test_each_by_itself(self):
        for place, things, refusal in self.wrong():
            for thing in things:
                arguments = [NUMBERS, "x12+", ROWS]
                arguments[place] = thing
                with self.assertRaises(refusal, msg=repr(thing)[:200]):
                    laid(*arguments)

    def test_each_few_at_once(self):
        wrong = self.wrong()
        for several in range(1, 2 ** len(wrong)):
            chosen = [wrong[k] for k in range(len(wrong)) if several >> k & 1]
            for turn in range(15):
                arguments = [NUMBERS, "x12+", ROWS]
                for place, things, refusal in reversed(chosen):
                    arguments[place] = things[turn % len(things)]
                with self.assertRaises(chosen[0][2], msg=repr(arguments)[:300]):
                    laid(*arguments)

    def wrong(self):
        shared = helper.wrong_arguments(errors)
        rows = [thing for thing in helper.odd_things() if thing != []] + self.wrong_rows()
        return [(0, shared[0][1], NoBook), (0, shared[1][1], Loops), (1, shared[3][1], NoText), (2, rows, NoRows)]

    def wrong_rows(self):
        wrong = [tuple(ROWS), [list(row) for row in ROWS]]
        wrong += [ROWS + [ROWS[0]], ROWS + [(12, "digit", 0, None, 1, ["digit"])]]
        wrong += [ROWS[:k] + ROWS[k + 1:] for k in range(1, len(ROWS))]
        wrong += [ROWS[:4] + [ROWS[4][:5]], ROWS[:4] + [ROWS[4] + (0,)]]
        parts = [
            (-1, True, "8", None, 8.0, 7), ("digits", "Digit", "more", None, 0, "lacking"),
            (1, 3, 0, 4, 5, -1, 2.0, "2", None),
            (0, 2, None, True, 1.0, "1", -1), (0, 2, True, 1.0, None, "1", 400),
            ([], ["more"], ["digit", "digit"], ["digit", "more"], ("digit",), "digit", None, {"digit": True}, [None],
             [[]]),
        ]
        for k, things in enumerate(parts):
            for thing in things:
                row = list(ROWS[4])
                row[k] = thing
                wrong.append(ROWS[:4] + [tuple(row)])
        return wrong

    def test_the_wrong_rows_are_wrong(self):
        self.assertTrue(are_rows(NUMBERS, "x12+", ROWS))
        for rows in self.wrong_rows():
            self.assertFalse(are_rows(NUMBERS, "x12+", rows), rows)

    def test_rows_of_another_text_or_book(self):
        for text in ("x1", "x1+", "x1+2", "x122", "12+", ""):
            self.assertRaises(NoRows, laid, NUMBERS, text, ROWS)
        for text in ("y12+", "012", "x12-12"):
            self.assertEqual(laid(NUMBERS, text, ROWS).kept(), sorted(ROWS))
        self.assertRaises(NoRows, laid, NUMBERS[:2], "x12+", ROWS)
        self.assertRaises(NoRows, laid, [], "x12+", ROWS)
        self.assertEqual(laid(NUMBERS + [("other", ("any",))], "x12+", ROWS).kept(), sorted(ROWS))


class TheAskersOwn(unittest.TestCase):
    def test_what_was_handed_in_changed_afterwards(self):
        book, rows = copy.deepcopy(NUMBERS), copy.deepcopy(ROWS)
        reader = laid(book, "x12+", rows)
        for row in rows:
            row[5].append("spoiled")
            row[5].reverse()
        rows.clear()
        book.clear()
        self.assertEqual(helper.state(reader), ("x12+", NUMBERS, sorted(ROWS), 0))
        self.assertEqual(reader.paper("number", 1), ("number", 2, 3, "12+", False, NUMBERS))
        reader.drop("digit")
        self.assertEqual(reader.kept(), [])

    def test_what_was_handed_in_is_not_changed(self):
        book, rows = copy.deepcopy(NUMBERS), copy.deepcopy(ROWS)
        reader = laid(book, "x12+", rows)
        for one in helper.lists_within(reader.kept()) + helper.lists_within(reader.book()):
            one.clear()
        reader.put(0, 0, "7")
        reader.drop("digit")
        reader.read("number")
        reader.undo()
        reader.forget()
        self.assertEqual((book, rows), (NUMBERS, ROWS))

    def test_two_readers_laid_from_the_same(self):
        one, other = laid(NUMBERS, "x12+", ROWS), laid(NUMBERS, "x12+", ROWS)
        one.drop("digit")
        one.put(0, 4, "")
        self.assertEqual(helper.state(other), ("x12+", NUMBERS, sorted(ROWS), 0))
        self.assertEqual(helper.state(one), ("", NUMBERS[1:], [], 0))


if __name__ == "__main__":
    unittest.main()
