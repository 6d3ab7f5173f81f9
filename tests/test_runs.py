import random
import unittest

import helper
from keptreading.errors import Loops, NoDeed
from keptreading.papers import is_paper, paper
from keptreading.reader import Reader, laid
from keptreading.readings import reading, tree
from keptreading.stays import are_rows

NAMES = list("abcdefgh")
# Reads a text sign by sign, each time asking itself behind the sign.
DEEP = [("all", ("first", "step", "done")), ("done", ("none",)), ("one", ("any",)), ("step", ("row", "one", "all"))]


# Rules that begin with a sign, and so seldom loop and reach far; now and then any other one.
def random_rule(dice):
    name, part, other = dice.choice("abcdefabcdefgh"), dice.choice(NAMES), dice.choice(NAMES)
    if name in "gh" or dice.random() < 0.15:
        return name, dice.choice([("any",), ("signs", "ab"), ("signs", "+ax"), helper.random_form(dice, NAMES)])
    return name, dice.choice([("row", "h", part, other), ("row", "g", part), ("first", "g", part), ("again", "h"),
                              ("row", "h", name), ("again", part), ("first", part, other, "h"), ("not", part)])


def far_start(dice):
    book = helper.far_book(dice)
    while helper.true_loops(book):
        book = helper.far_book(dice)
    return book, "".join(dice.choice("abx+") for k in range(8))


class Run:
    # A reader and its model, which are told and asked the same.
    def __init__(self, case, dice, reader, model):
        self.case, self.dice, self.reader, self.model = case, dice, reader, model

    def put(self):
        a, b = sorted(self.dice.randint(0, len(self.model.text)) for k in range(2))
        b = min(b, a + 2)
        signs = helper.random_text(self.dice, 4 if len(self.model.text) < 12 else 1)
        self.reader.put(a, b, signs)
        self.model.put(a, b, signs)

    def rule(self):
        name, form = random_rule(self.dice)
        others = [rule for rule in self.model.book if rule[0] != name]
        if helper.true_loops(sorted(others + [(name, form)])):
            self.case.assertRaises(Loops, self.reader.rule, name, form)
        else:
            self.reader.rule(name, form)
            self.model.change(name, [(name, form)])

    def drop(self):
        if self.model.book:
            name = self.dice.choice(self.model.book)[0]
            self.reader.drop(name)
            self.model.change(name, [])

    def undo(self):
        for turn in range(self.dice.choice([1, 1, 1, 2, 5])):
            if self.model.past:
                self.reader.undo()
                self.model.undo()
            else:
                self.case.assertRaises(NoDeed, self.reader.undo)

    def some_reading(self):
        return self.dice.choice(NAMES), self.dice.randint(0, len(self.model.text))

    def ask(self):
        for turn in range(3):
            name, place = self.some_reading()
            self.model.ask(name, place)
            length, reach, asked, leans = self.model.truth.reading(name, place)
            question = self.dice.choice(["read", "row", "asked", "paper", "tree"])
            told = getattr(self.reader, question)(name, place)
            row = self.model.truth.row(self.model.numbers[(name, place)], name, place)
            expected = {"read": (length, reach), "row": row, "asked": asked}
            if question == "paper":
                self.case.assertEqual(told, paper(self.model.book, name, self.model.text, place))
                self.case.assertTrue(is_paper(told))
            elif question == "tree":
                self.case.assertEqual(told, self.model.truth.tree(name, place))
            else:
                self.case.assertEqual(told, expected[question])

    def sweep(self):
        one = self.some_reading()
        self.case.assertEqual(self.reader.sweep(*one), self.model.sweep(*one))

    def forget(self):
        self.case.assertEqual(self.reader.forget(), len(self.model.numbers))
        self.model.numbers = {}

    def lay_anew(self):
        self.reader = laid(self.reader.book(), self.reader.text(), self.reader.kept())
        self.model = helper.Model(self.model.book, self.model.text, self.model.numbers)

    def step(self):
        several = ["put"] * 12 + ["rule"] * 8 + ["drop"] + ["undo"] * 5 + ["ask"] * 40 + ["sweep"] * 2
        getattr(self, self.dice.choice(several + ["forget", "lay_anew"]))()
        self.case.assertEqual(helper.state(self.reader), helper.state_of_model(self.model))
        self.case.assertTrue(are_rows(self.reader.book(), self.reader.text(), self.reader.kept()))


class LongRuns(unittest.TestCase):
    def test_deeds_and_questions(self):
        for seed in range(10):
            run = Run(self, random.Random(seed), Reader(), helper.Model())
            for turn in range(120):
                run.step()

    def test_from_books_that_reach_far(self):
        for seed in range(50):
            dice = random.Random(seed)
            book, text = far_start(dice)
            run = Run(self, dice, laid(book, text, []), helper.Model(book, text))
            for turn in range(100):
                run.step()

    def test_two_readers_at_once(self):
        for seed in range(10):
            dice = random.Random(seed)
            starts = [([], ""), far_start(dice)]
            runs = [Run(self, dice, laid(book, text, []), helper.Model(book, text)) for book, text in starts]
            for turn in range(60):
                runs[turn % 2].step()
                other = runs[(turn + 1) % 2]
                self.assertEqual(helper.state(other.reader), helper.state_of_model(other.model))

    # Every rule at every place behind each of the deeds, with all that was asked before kept.
    def test_all_asked_behind_each_deed(self):
        for seed in range(8):
            dice = random.Random(seed)
            book, text = far_start(dice)
            run = Run(self, dice, laid(book, text, []), helper.Model(book, text))
            for turn in range(20):
                getattr(run, dice.choice(["put", "put", "rule", "rule", "drop", "undo"]))()
                text, book = run.reader.text(), run.reader.book()
                for name, place in run.model.truth.every(NAMES):
                    told = reading(book, name, text, place)
                    self.assertEqual(run.reader.read(name, place), told[:2])
                    self.assertEqual(run.reader.asked(name, place), told[2])
                    self.assertEqual(run.reader.row(name, place)[5], told[3])
                    self.assertEqual(run.reader.tree(name, place), tree(book, name, text, place))
                    run.model.ask(name, place)
                self.assertEqual(helper.state(run.reader), helper.state_of_model(run.model))


class TwoWays(unittest.TestCase):
    def same(self, one, other):
        self.assertEqual((one.text(), one.book()), (other.text(), other.book()))
        for name in NAMES:
            for place in range(len(one.text()) + 1):
                for question in ("read", "asked", "tree", "paper"):
                    self.assertEqual(getattr(one, question)(name, place), getattr(other, question)(name, place))
                self.assertEqual(one.row(name, place)[1:], other.row(name, place)[1:])

    def test_to_the_same_text_and_book(self):
        for seed, (book, text) in enumerate(helper.read_cases(532, 60, 6)):
            dice = random.Random(seed)
            whole = helper.told_by_deeds(Reader(), book, text, dice)
            by_signs = Reader()
            for k, sign in enumerate(text):
                by_signs.put(k, k, sign)
                by_signs.tree(dice.choice(NAMES), dice.randint(0, k))
            for name, form in dice.sample(book, len(book)):
                by_signs.rule(name, form)
                by_signs.tree(dice.choice(NAMES), dice.randint(0, len(text)))
            self.same(whole, by_signs)
            model = helper.Model(book, text, {(row[1], row[2]): row[0] for row in by_signs.kept()})
            model.following = by_signs.made()
            run = Run(self, dice, by_signs, model)
            for turn in range(5):
                getattr(run, dice.choice(["put", "rule", "drop", "ask"]))()
            while run.model.past:
                run.reader.undo()
                run.model.undo()
            self.same(whole, by_signs)
            self.same(laid(book, text, by_signs.kept()), whole)


class Deep(unittest.TestCase):
    def test_a_rule_that_asks_itself_behind_each_sign(self):
        reader = laid(DEEP, "x" * 400, [])
        self.assertEqual(reader.read("all"), (400, 401))
        self.assertEqual(reader.made(), 3 * 400 + 4)
        self.assertEqual(reader.row("all"), (1203, "all", 0, 400, 401, ["all", "done", "one", "step"]))
        self.assertEqual(len(reader.tree("all")), 3 * 400 + 2)
        self.assertEqual(reader.tree("all")[-1], (801, "done", 400, 0))
        self.assertEqual(len(reader.kept()), 1204)

    def test_behind_a_put_at_the_far_end(self):
        reader = laid(DEEP, "x" * 400, [])
        reader.read("all")
        reader.put(400, 400, "y")
        # All but the signs themselves reached the end; what stood at the end stays there.
        self.assertEqual(len(reader.kept()), 400 + 4)
        self.assertEqual(reader.read("all"), (401, 402))
        self.assertEqual(reader.made(), 1204 + 1 + 2 * 401)

    def test_behind_a_put_at_the_near_end(self):
        reader = laid(DEEP, "x" * 400, [])
        reader.read("all")
        reader.put(0, 0, "y")
        self.assertEqual(len(reader.kept()), 1204)
        self.assertEqual(reader.read("all", 1), (400, 401))
        self.assertEqual(reader.made(), 1204)
        self.assertEqual(reader.read("all"), (401, 402))
        self.assertEqual(reader.made(), 1207)
        reader.put(0, 1, "z")
        self.assertEqual(reader.read("all"), (401, 402))
        self.assertEqual(reader.made(), 1210)

    def test_texts_that_grow(self):
        reader = laid(DEEP, "", [])
        for turn in range(12):
            reader.put(0, 0, "x" * 400)
        self.assertEqual(reader.read("all"), (4800, 4801))
        self.assertEqual(reader.sweep("all", 4000), 12000)
        self.assertEqual(len(reader.kept()), 2404)

    def test_chains(self):
        for many in (30, 31, 60, 200):
            names = helper.many_names(many)
            for word, length in (("row", 1), ("first", 1), ("ahead", 0)):
                reader = laid(helper.chain(names, word, ("any",)), "xy", [])
                self.assertEqual(reader.read(names[0]), (length, 1))
                self.assertEqual(reader.made(), many)
                reader.put(2, 2, "z")
                self.assertEqual(reader.read(names[0]), (length, 1))
                self.assertEqual(reader.made(), many)
                reader.put(0, 1, "q")
                self.assertEqual(reader.read(names[0]), (length, 1))
                self.assertEqual(reader.made(), 2 * many)
                reader.rule(names[-1], ("signs", "x"))
                self.assertEqual(reader.read(names[0]), (None, 1))
                self.assertEqual(reader.made(), 3 * many)

    # Thirty rules within one another behind each sign: some thousand readings within one another.
    def test_chains_behind_each_sign(self):
        names = helper.many_names(30)
        book = helper.chain(names, "row", ("first", "step", "one"))
        book = sorted(book + [("one", ("any",)), ("step", ("row", "one", names[0]))])
        reader = laid(book, "x" * 400, [])
        self.assertEqual(reader.read(names[0]), (400, 401))
        made = reader.made()
        self.assertEqual(made, 401 * 32)
        reader.put(0, 0, "x")
        self.assertEqual(reader.read(names[0]), (401, 402))
        self.assertEqual(reader.made(), made + 32)
        reader.put(401, 401, "x")
        self.assertEqual(reader.read(names[0]), (402, 403))
        self.assertEqual(reader.made(), made + 32 + 402 * 31 + 1)


if __name__ == "__main__":
    unittest.main()
