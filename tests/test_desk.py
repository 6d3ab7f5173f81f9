import unittest

import helper
from keptreading.desk import Desk
from keptreading.errors import Loops, NoDeed, NoPlace, NoRow, NoRule, NoText, TooMany
from keptreading.texts import read_book

NUMBERS = "digit = signs 0123456789; more = again digit; number = row digit more"
DOUBLED = "a = row b b; b = row c c; c = row d d; d = row e e; e = row f f; f = row g g; g = row h h; h = row i i; "
DOUBLED += "i = row j j; j = row k k; k = none"


def loaded(book, text):
    desk = Desk()
    desk.say("load " + book)
    desk.say("put 0 0 " + text)
    return desk


# All that shows how a desk stands, but for what there is to undo.
def stand(desk):
    return [desk.say("text"), desk.say("book"), desk.say("kept"), desk.say("made"), desk.reader()]


class Talk(unittest.TestCase):
    def talk(self, desk, rows):
        for row, answer in rows:
            found = desk.say(row)
            self.assertEqual((found, type(found)), (answer, str), row)

    def refused(self, desk, row, refusal):
        before = stand(desk)
        with self.assertRaises(refusal, msg=repr(row)[:100]):
            desk.say(row)
        self.assertEqual(stand(desk), before, repr(row)[:100])


class Rows(Talk):
    def test_a_new_desk(self):
        self.talk(Desk(), [("text", "''"), ("book", ""), ("kept", "0"), ("made", "0"), ("forget", "0"),
                           ("read a 0", "no 1"), ("number a 0", "0"), ("leans a 0", "a"), ("tree a 0", "no"),
                           ("kept", "1"), ("made", "1"), ("sweep b 0", "1"), ("number b 0", "1")])
        self.assertEqual(Desk().reader(), ("", []))

    def test_a_talk(self):
        desk = Desk()
        self.talk(desk, [
            ("rule digit signs 0123456789", "ok"), ("rule more again digit", "ok"),
            ("rule number row digit more", "ok"), ("put 0 0 x12+", "ok"), ("read number 1", "2 3"),
            ("number number 1", "4"), ("leans number 1", "digit more number"),
            ("tree number 1", "0 number 1 2; 1 digit 1 1; 1 more 2 1; 2 digit 2 1"), ("tree number 0", "no"),
            ("read number 0", "no 1"), ("kept", "7"), ("made", "7"), ("text", "'x12+'"), ("book", NUMBERS),
            ("put 0 1 ", "ok"), ("text", "'12+'"), ("kept", "5"), ("number number 0", "4"), ("made", "7"),
            ("drop more", "ok"), ("read number 0", "no 2"), ("made", "9"), ("undo", "ok"), ("kept", "3"),
            ("sweep number 0", "0"), ("kept", "5"), ("made", "11"), ("sweep digit 2", "4"), ("forget", "1"),
            ("kept", "0"), ("undo", "ok"), ("text", "'x12+'"), ("tree more 4", "0 more 4 0"), ("read more 4", "0 1"),
        ])
        self.assertEqual(desk.reader(), ("x12+", read_book(NUMBERS)))

    def test_ring(self):
        desk = loaded(NUMBERS, "12")
        desk.say("read number 0")
        before = stand(desk)
        self.talk(desk, [("ring ", "none"), ("ring a = none", "none"), ("ring " + NUMBERS, "none"),
                         ("ring a = row a", "a"), ("ring none = not none", "none")])
        for book in helper.LOOPING:
            shown = "; ".join(name + " = " + " ".join(form) for name, form in book)
            ring = desk.say("ring " + shown).split(" ")
            for name, following in zip(ring, ring[1:] + ring[:1]):
                self.assertIn(following, helper.true_begins(book, name))
            self.assertEqual(len(set(ring)), len(ring))
        self.assertEqual(stand(desk), before)

    def test_load(self):
        desk = loaded(NUMBERS, "12")
        self.talk(desk, [("read number 0", "2 3"), ("made", "5"), ("load a = any; b = row a a", "ok"), ("text", "'12'"),
                         ("book", "a = any; b = row a a"), ("kept", "0"), ("made", "0"), ("read b 0", "2 2"),
                         ("number b 0", "2"), ("load ", "ok"), ("book", ""), ("text", "'12'"), ("kept", "0"),
                         ("made", "0")])
        self.refused(desk, "undo", NoDeed)
        self.assertEqual(desk.reader(), ("12", []))

    def test_load_of_a_long_text(self):
        desk = Desk()
        for turn in range(3):
            desk.say("put 0 0 " + "7" * 400)
        self.talk(desk, [("load " + NUMBERS, "ok"), ("read number 0", "1200 1201"), ("text", "'" + "7" * 1200 + "'")])

    def test_signs_with_blanks(self):
        for signs in ("", " ", "  ", " a", "a ", " a b ", "a  b", "put 0 0 x", "'", "; = ;"):
            desk = Desk()
            self.talk(desk, [("put 0 0 " + signs, "ok"), ("text", "'" + signs + "'")])
            self.assertEqual(desk.reader(), (signs, []))
            self.talk(desk, [("put 0 " + str(len(signs)) + " z", "ok"), ("text", "'z'"), ("undo", "ok"),
                             ("text", "'" + signs + "'"), ("undo", "ok"), ("text", "''")])

    def test_forms_and_books_with_blanks(self):
        desk = Desk()
        self.talk(desk, [("rule a signs  ", "ok"), ("book", "a = signs  "), ("rule a signs  ;=", "ok"),
                         ("book", "a = signs  ;="), ("load a = signs  ; b = signs  ", "ok"),
                         ("book", "a = signs  ; b = signs  "), ("put 0 0   ", "ok"), ("text", "'  '"),
                         ("read a 1", "1 1"), ("ring a = signs  ", "none")])
        for row in ("rule a  any", "rule a any ", "rule a ", "rule a signs ", "rule a  ", "rule a row a  b",
                    "load  a = any", "load a = any ", "load  ", "ring  ", "ring  a = any", "ring a = any ",
                    "ring a = any; ", "load a = any;"):
            self.refused(desk, row, NoText)

    def test_the_answers_are_those_of_a_reader(self):
        for book, text in helper.read_cases(551, 40, 5):
            desk, model = Desk(), helper.Model()
            for name, form in book:
                desk.say("rule " + name + " " + " ".join(form))
                model.change(name, [(name, form)])
            desk.say("put 0 0 " + text)
            model.put(0, 0, text)
            for name, place in model.truth.every([name for name, form in book] + ["z"]):
                model.ask(name, place)
                length, reach, asked, leans = model.truth.reading(name, place)
                rows = model.truth.tree(name, place)
                shown = "no" if rows is None else "; ".join(" ".join(str(part) for part in row) for row in rows)
                self.talk(desk, [(f"tree {name} {place}", shown), (f"leans {name} {place}", " ".join(leans)),
                                 (f"read {name} {place}", f"{'no' if length is None else length} {reach}"),
                                 (f"number {name} {place}", str(model.numbers[(name, place)])),
                                 ("kept", str(len(model.numbers))), ("made", str(model.makings))])


class NoRows(Talk):
    def no_row(self, row):
        self.refused(loaded(NUMBERS, "12"), row, NoRow)

    def rows_with(self, number):
        rows = [f"{word} more {number}" for word in ("read", "number", "tree", "leans", "sweep")]
        return rows + [f"put {number} {number} x", f"put 0 {number} x", f"put {number} 2 "]

    def test_numbers_of_one_to_sixty_figures(self):
        for row in self.rows_with("1"):
            self.assertIs(type(loaded(NUMBERS, "12").say(row)), str)
        for many in range(1, 61):
            for row in self.rows_with("9" * many) + self.rows_with("3" + "0" * (many - 1)):
                self.refused(loaded(NUMBERS, "12"), row, NoPlace)

    def test_what_is_no_number(self):
        for number in ("00", "01", "007", "0" * 60, "9" * 61, "1" + "0" * 60, "1" * 400, "-1", "+1", "-0", "1_0", "1.0",
                       "1e1", "0x1", "a", "", "\u0661", "\u00b2", "1\n", "\t1", "\uff11", "one", "%", "9" * 5000):
            for row in self.rows_with(number):
                self.no_row(row)

    def test_the_figure_nought(self):
        self.talk(loaded(NUMBERS, "12"), [("read more 0", "2 3"), ("put 0 0 ", "ok"), ("put 0 2 ", "ok"),
                                          ("read more 0", "0 1")])

    def test_names(self):
        for name in ["", "A", "aB", "abcdefghi", "a1", "1", "a,", "a\n", "\ta", "\u00e9", "%", "a_b", "\uff41",
                     "a\u00a0b"]:
            for row in (f"read {name} 0", f"number {name} 0", f"tree {name} 0", f"leans {name} 0", f"sweep {name} 0",
                        f"drop {name}", f"rule {name} any", f"rule {name} nothing", f"rule {name} again {name}"):
                self.no_row(row)

    def test_words_too_few_or_too_many(self):
        for row in ("put", "put ", "put 0", "put 0 ", "put 0 0", "put 0  0 x", "put  0 0 x", " put 0 0 x", "rule",
                    "rule ", "rule a", "rule  a any", " rule a any", "drop", "drop ", "drop digit ", "drop  digit",
                    " drop digit", "drop digit more", "undo ", " undo", "undo 1", "read", "read ", "read more",
                    "read more ", "read  more 0",
                    "read more  0", "read more 0 ", " read more 0", "read more 0 0", "read 0 more", "number more",
                    "number 0", "number more 0 1", "tree more", "tree more 0 ", "tree  more 0", "tree more 0 1",
                    "leans more", "leans",
                    "leans more 0 0", "kept ", " kept", "kept 0", "made ", " made", "made made", "sweep", "sweep more",
                    "sweep more 0 0", "forget ", " forget", "forget more", "ring", " ring ", "text ", " text",
                    "text text", "book ", " book", "book a = any", "load", " load ", " load a = any", "", " ", "  ",
                    "ok", "no", "none",
                    "asked more 0", "paper more 0", "row more 0", "reader", "quit", "say"):
            self.no_row(row)

    def test_great_letters_and_other_blanks(self):
        for row in ("PUT 0 0 x", "Put 0 0 x", "Rule a any", "Drop digit", "Undo", "UNDO", "Read more 0",
                    "Number more 0", "Tree more 0", "Leans more 0", "Kept", "Made", "Sweep more 0", "Forget", "Ring ",
                    "Text", "Book", "Load ",
                    "undo\n", "\nundo", "kept\t", "text\r", "read\tmore\t0", "read more\t0", "put\t0 0 x", "put 0\t0 x",
                    "put\n0 0 x", "read\u00a0more\u00a00", "load\ta = any", "ring\n", "drop\ndigit", "made\0",
                    "\ufefftext"):
            self.no_row(row)

    def test_things_of_every_kind(self):
        for thing in helper.odd_things() + [helper.Alike(), b"text", ["text"], ("text",), {"text": 0}, b"undo"]:
            self.no_row(thing)


class OtherRefusals(Talk):
    def test_signs(self):
        for signs in helper.NO_TEXTS:
            self.refused(loaded(NUMBERS, "12"), "put 0 0 " + signs, NoText)
            self.refused(loaded(NUMBERS, "12"), "put 0 2 " + signs, NoText)
            self.refused(loaded(NUMBERS, "12"), "put 0 3 " + signs, NoPlace)
            self.refused(loaded(NUMBERS, "12"), "put 00 3 " + signs, NoRow)

    def test_places(self):
        for row in ("put 1 0 x", "put 0 3 x", "put 3 3 x", "put 2 1 ", "put 3 0 x", "read more 3", "number more 3",
                    "leans z 3", "tree more 3", "sweep more 3", "sweep z 3", "read z 40"):
            self.refused(loaded(NUMBERS, "12"), row, NoPlace)

    def test_forms_and_books(self):
        for form in ("", "row", "row A", "signs ba", "Any", "any any", "again digit more", "signs a\n", "signs %",
                     "\u00e9"):
            self.refused(loaded(NUMBERS, "12"), "rule more " + form, NoText)
        for book in ("a", "a = ", "b = any; a = any", "a = any; a = any", "a = row a; a = any", "b = row b; a = row a",
                     "a = row a;", "a = row a; ", "a = row a; b = nothing", "a = any;b = any", "a = any\n", "%"):
            self.refused(loaded(NUMBERS, "12"), "load " + book, NoText)
            self.refused(loaded(NUMBERS, "12"), "ring " + book, NoText)

    def test_loops(self):
        for row in ("rule more again more", "rule digit row more", "rule digit first a number", "load a = not a",
                    "load a = row b; b = row a", "load " + NUMBERS + "; own = row own"):
            self.refused(loaded(NUMBERS, "12"), row, Loops)

    def test_rules_and_deeds(self):
        for row in ("drop a", "drop abcdefgh", "drop numbers"):
            self.refused(loaded(NUMBERS, "12"), row, NoRule)
        self.refused(Desk(), "undo", NoDeed)
        self.refused(Desk(), "drop a", NoRule)

    def test_a_refused_row_leaves_what_is_to_undo(self):
        desk = loaded(NUMBERS, "12")
        for row, refusal in (("load a = not a", Loops), ("load a", NoText), ("rule a not a", Loops),
                             ("put 9 9 x", NoPlace), ("drop z", NoRule), ("undo x", NoRow)):
            self.refused(desk, row, refusal)
        self.talk(desk, [("undo", "ok"), ("text", "''")])
        self.refused(desk, "undo", NoDeed)

    def test_a_tree_of_too_many_rows_is_made_and_kept(self):
        desk = loaded(DOUBLED, "")
        self.assertRaises(TooMany, desk.say, "tree a 0")
        self.talk(desk, [("kept", "11"), ("made", "11"), ("number a 0", "10"), ("read a 0", "0 1")])
        self.assertRaises(TooMany, desk.say, "tree a 0")
        self.talk(desk, [("made", "11")])
        self.assertEqual(len(desk.say("tree b 0").split("; ")), 1023)


class Desks(Talk):
    def test_reader_tells_a_new_tuple(self):
        desk = loaded(NUMBERS, "12")
        told = desk.reader()
        self.assertEqual(helper.kinds(told), helper.kinds(("12", read_book(NUMBERS))))
        told[1].clear()
        self.assertEqual(desk.reader(), ("12", read_book(NUMBERS)))
        before = desk.reader()
        desk.say("drop more")
        desk.say("put 0 2 ")
        self.assertEqual(before, ("12", read_book(NUMBERS)))

    def test_two_desks_by_turns(self):
        one, other = loaded(NUMBERS, "12"), Desk()
        self.talk(one, [("read number 0", "2 3")])
        self.talk(other, [("kept", "0"), ("text", "''"), ("book", ""), ("read number 0", "no 1")])
        self.talk(one, [("kept", "5"), ("put 1 1 x", "ok")])
        self.talk(other, [("rule number any", "ok"), ("put 0 0 abc", "ok"), ("read number 2", "1 1")])
        self.talk(one, [("read number 0", "1 2"), ("load a = any", "ok"), ("text", "'1x2'")])
        self.talk(other, [("text", "'abc'"), ("book", "number = any"), ("made", "2"), ("undo", "ok"), ("undo", "ok")])
        self.refused(other, "undo", NoDeed)
        self.talk(one, [("read a 0", "1 1"), ("made", "1")])


if __name__ == "__main__":
    unittest.main()
