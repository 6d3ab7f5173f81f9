import copy
import random
import unittest

import helper
from keptreading.stays import are_rows, behind_put, behind_rule


# All readings that lie below the given ones, as rows in a mixed order, their numbers with gaps.
def rows_below(dice, truth, starts):
    below = sorted({one for start in starts for one in truth.below(*start)})
    numbers = dice.sample(range(3 * len(below) + 1), len(below))
    rows = [truth.row(number, name, place) for number, (name, place) in zip(numbers, below)]
    dice.shuffle(rows)
    return rows


# Books and texts, each with rows that are right for them.
def right_lists(seed, many, most):
    dice = random.Random(seed)
    told = []
    for book, text in helper.read_cases(seed, many, most):
        truth = helper.Truth(book, text)
        every = truth.every([name for name, form in book] + ["z"])
        told.append((book, text, rows_below(dice, truth, dice.sample(every, dice.randint(1, 3)))))
    return told


# Whether rows of the right kinds are right, by a second working-out.
def truly_right(book, text, rows):
    truth = helper.Truth(book, text)
    ones = [(row[1], row[2]) for row in rows]
    numbers = [row[0] for row in rows]
    if len(set(ones)) < len(ones) or len(set(numbers)) < len(numbers) or min(numbers, default=0) < 0:
        return False
    if not all(0 <= place <= len(text) for name, place in ones):
        return False
    if not all(row == truth.row(*row[:3]) for row in rows):
        return False
    return all(step in ones for one in ones for step in truth.reading(*one)[2])


class Stay(unittest.TestCase):
    def check(self, told, rows, expected, before):
        self.assertEqual(told, expected)
        self.assertEqual(helper.kinds(told), helper.kinds(expected))
        self.assertEqual(rows, before)
        handed = [id(one) for one in helper.lists_within(rows)]
        own = [id(one) for one in helper.lists_within(told)]
        self.assertEqual(len(set(own)), len(own))
        self.assertFalse(set(own) & set(handed))

    def put(self, rows, a, b, many, expected):
        before = copy.deepcopy(rows)
        self.check(behind_put(rows, a, b, many), rows, expected, before)

    def rule(self, rows, name, expected):
        before = copy.deepcopy(rows)
        self.check(behind_rule(rows, name), rows, expected, before)


class BehindPut(Stay):
    def test_no_rows(self):
        for a, b, many in ((0, 0, 0), (0, 0, 5), (3, 7, 2)):
            self.put([], a, b, many, [])

    def row(self, number, place, reach):
        return (number, "r", place, None, reach, ["a", "r"])

    def stays(self, place, reach, a, b, many, expected):
        told = [] if expected is None else [self.row(5, expected, reach)]
        self.put([self.row(5, place, reach)], a, b, many, told)

    def test_rows_ahead(self):
        for b in (4, 5, 9):
            for many in (0, 1, 7):
                self.stays(3, 1, 4, b, many, 3)
                self.stays(0, 4, 4, b, many, 0)
                self.stays(0, 3, 4, b, many, 0)
                self.stays(0, 5, 4, b, many, None)
                self.stays(3, 2, 4, b, many, None)
                self.stays(0, 400, 4, b, many, None)

    def test_rows_behind(self):
        for reach in (1, 2, 400):
            self.stays(4, reach, 2, 4, 0, 2)
            self.stays(4, reach, 2, 4, 1, 3)
            self.stays(4, reach, 2, 4, 2, 4)
            self.stays(4, reach, 2, 4, 7, 9)
            self.stays(9, reach, 2, 4, 7, 14)
            self.stays(3, reach, 2, 4, 2, None)
            self.stays(2, reach, 2, 4, 2, None)

    def test_nothing_taken_out(self):
        for many in (0, 1, 5):
            self.stays(3, 1, 3, 3, many, 3 + many)
            self.stays(2, 1, 3, 3, many, 2)
            self.stays(2, 2, 3, 3, many, None)
            self.stays(0, 9, 0, 0, many, many)
            self.stays(0, 4, 3, 3, many, None)
            self.stays(0, 3, 3, 3, many, 0)

    def test_every_place_around(self):
        places = [(place, reach) for place in range(8) for reach in range(1, 9)]
        rows = [self.row(number, place, reach) for number, (place, reach) in enumerate(places)]
        for a in range(7):
            for b in range(a, 8):
                for many in (0, 1, b - a, b - a + 1, 9):
                    expected = []
                    for row in rows:
                        touched = [at for at in range(row[2], row[2] + row[4]) if at >= a]
                        if not touched:
                            expected.append(row)
                        elif touched[0] == row[2] and row[2] >= b:
                            expected.append(self.row(row[0], row[2] - b + a + many, row[4]))
                    self.put(rows, a, b, many, expected)

    def test_rows_in_any_order(self):
        rows = [self.row(number, number % 11, 1 + number % 3) for number in range(0, 600, 7)]
        expected = behind_put(rows, 4, 6, 5)
        self.assertEqual([row[0] for row in expected], sorted(row[0] for row in expected))
        for order in helper.orders(rows):
            self.put(order, 4, 6, 5, expected)

    def test_what_else_a_row_has(self):
        shared = ["z", "a", "a"]
        rows = [(10 ** 59, "b", 0, 5, 1, shared), (0, "a", 9, 0, 3, []), (7, "c", 8, None, 10 ** 59, shared),
                (8, "c", 10 ** 59, 10 ** 59, 1, shared), (1, "a", 9, 0, 3, [])]
        self.put(rows, 1, 8, 0, [(0, "a", 2, 0, 3, []), (1, "a", 2, 0, 3, []),
                                 (7, "c", 1, None, 10 ** 59, ["z", "a", "a"]),
                                 (8, "c", 10 ** 59 - 7, 10 ** 59, 1, ["z", "a", "a"]),
                                 (10 ** 59, "b", 0, 5, 1, ["z", "a", "a"])])
        self.put(rows, 0, 10 ** 59, 10 ** 59, [(8, "c", 10 ** 59, 10 ** 59, 1, shared)])
        self.put(rows, 10 ** 60, 10 ** 60, 1, sorted(rows))

    def test_many_rows(self):
        rows = [self.row(number, number // 10, 1) for number in range(4000)]
        told = behind_put(list(reversed(rows)), 100, 200, 50)
        self.assertEqual(told, rows[:1000] + [self.row(row[0], row[2] - 50, 1) for row in rows[2000:]])

    def test_what_is_done_to_the_told_changes_nothing(self):
        rows = [self.row(0, 0, 1), self.row(1, 5, 1)]
        before = copy.deepcopy(rows)
        told = behind_put(rows, 2, 3, 1)
        told[0][5].append("q")
        self.assertEqual(told[1][5], ["a", "r"])
        told.clear()
        self.assertEqual(rows, before)
        told = behind_put(rows, 2, 3, 1)
        rows[0][5].clear()
        rows.clear()
        self.assertEqual(told, before)

    def test_what_stays_is_right_for_the_new_text(self):
        dice = random.Random(9)
        some = 0
        for book, text, rows in right_lists(9, 700, 9):
            a = dice.randint(0, len(text))
            b = dice.randint(a, len(text))
            signs = helper.random_text(dice, 4)
            told = behind_put(rows, a, b, len(signs))
            some += len(told) > 0
            self.assertTrue(truly_right(book, text[:a] + signs + text[b:], told), (book, text, a, b, signs))
            self.assertIs(are_rows(book, text[:a] + signs + text[b:], told), True)
        self.assertGreater(some, 200)


class BehindRule(Stay):
    rows = [(9, "a", 0, 1, 1, ["a"]), (4, "b", 0, None, 1, ["a", "b", "q"]), (2, "a", 3, None, 1, ["a"]),
            (7, "c", 1, 0, 5, ["bb", "c"]), (5, "d", 1, 0, 5, [])]

    def test_those_that_do_not_lean_on_it(self):
        two, four, five, seven, nine = [row for row in sorted(self.rows)]
        self.rule([], "a", [])
        self.rule(self.rows, "a", [five, seven])
        self.rule(self.rows, "b", [two, five, seven, nine])
        self.rule(self.rows, "q", [two, five, seven, nine])
        self.rule(self.rows, "c", [two, four, five, nine])
        self.rule(self.rows, "bb", [two, four, five, nine])
        for name in ("z", "d", "ab", "aa", "cc"):
            self.rule(self.rows, name, [two, four, five, seven, nine])

    def test_rows_in_any_order(self):
        rows = [(number, "r", 0, None, 1, ["p"] if number % 2 else ["q"]) for number in range(0, 300, 7)]
        for order in helper.orders(rows):
            self.rule(order, "p", [row for row in rows if row[0] % 2 == 0])

    def test_lists_shared_by_rows(self):
        shared = ["p", "r"]
        self.rule([(1, "r", 0, None, 1, shared), (0, "p", 0, None, 1, shared)], "q",
                  [(0, "p", 0, None, 1, ["p", "r"]), (1, "r", 0, None, 1, ["p", "r"])])

    def test_what_stays_is_right_for_the_new_book(self):
        dice = random.Random(10)
        some = 0
        for book, text, rows in right_lists(10, 700, 7):
            name = dice.choice("abcdefgh")
            changed = [rule for rule in book if rule[0] != name]
            if dice.random() < 0.7:
                changed = sorted(changed + [(name, helper.random_form(dice, list("abcdefgh")))])
            if helper.true_loops(changed):
                continue
            told = behind_rule(rows, name)
            some += len(told) > 0
            self.assertTrue(truly_right(changed, text, told), (book, changed, text))
            self.assertIs(are_rows(changed, text, told), True)
        self.assertGreater(some, 100)


BOOK = [("a", ("signs", "a")), ("m", ("again", "a")), ("r", ("row", "m", "q")), ("s", ("first", "q", "a"))]
TEXT = "aab"
# The row r at place 0 asks m at 0 and q at 2; m asks a at 0, 1 and 2.
RIGHT = [
    (9, "r", 0, None, 3, ["a", "m", "q", "r"]), (0, "a", 1, 1, 1, ["a"]), (4, "m", 0, 2, 3, ["a", "m"]),
    (3, "q", 2, None, 1, ["q"]), (7, "a", 0, 1, 1, ["a"]), (2, "a", 2, None, 1, ["a"]),
]


def with_row(rows, place, *more):
    return rows[:place] + list(more) + rows[place + 1:]


class AreRows(unittest.TestCase):
    def told(self, rows, expected, book=BOOK, text=TEXT):
        before = copy.deepcopy(book)
        self.assertIs(are_rows(book, text, rows), expected, repr(rows)[:600])
        self.assertEqual(book, before)

    def test_by_hand(self):
        self.told(RIGHT, True)
        self.told([], True)
        self.told([], True, [], "")
        self.told([(0, "r", 0, None, 1, ["r"])], True, [], "")
        self.told([(0, "r", 1, None, 1, ["r"])], False, [], "")
        self.told(RIGHT[1:2], True)
        self.told([(10 ** 59, "a", 3, None, 1, ["a"])], True)

    def test_in_any_order(self):
        for order in helper.orders(RIGHT):
            before = copy.deepcopy(order)
            self.told(order, True)
            self.assertEqual(order, before)

    def test_a_row_out(self):
        for k, row in enumerate(RIGHT):
            # What no other one asks may go.
            self.told(with_row(RIGHT, k), row[1] == "r")
        self.told(RIGHT[1:2] + RIGHT[3:], True)
        self.told(RIGHT[:1], False)
        self.told([RIGHT[0], RIGHT[2], RIGHT[3]], False)

    def test_more_rows(self):
        self.told(RIGHT + [(1, "z", 1, None, 1, ["z"])], True)
        self.told(RIGHT + [(1, "a", 3, None, 1, ["a"])], True)
        self.told(RIGHT + [(1, "s", 0, 1, 1, ["a", "q", "s"])], False)
        self.told(RIGHT + [(1, "s", 0, 1, 1, ["a", "q", "s"]), (8, "q", 0, None, 1, ["q"])], True)
        self.told(RIGHT + [(1, "s", 0, 1, 1, ["a", "q", "s"]), (8, "q", 1, None, 1, ["q"])], False)

    def test_a_row_twice(self):
        for k, row in enumerate(RIGHT):
            self.told(RIGHT + [row], False)
            self.told(RIGHT + [(row[0] + 100,) + row[1:]], False)
            self.told(with_row(RIGHT, k, row, row), False)

    def test_two_with_one_number(self):
        for k, row in enumerate(RIGHT):
            for other in RIGHT:
                self.told(with_row(RIGHT, k, (other[0],) + row[1:]), other == row)

    def test_numbers(self):
        for k, row in enumerate(RIGHT):
            for number in (-1, -10 ** 59, True, False, None, 1.0, 5.0, "5", "", [], ()):
                self.told(with_row(RIGHT, k, (number,) + row[1:]), False)
            for number in (1, 5, 6, 8, 10, 10 ** 59):
                self.told(with_row(RIGHT, k, (number,) + row[1:]), True)

    def test_each_other_part_put_wrong(self):
        for k, (number, name, place, length, reach, leans) in enumerate(RIGHT):
            for wrong in ("b", "z", "A", "", "aa", None, 0, ["a"], ("a",)):
                self.told(with_row(RIGHT, k, (number, wrong, place, length, reach, leans)), False)
            for wrong in (-1, place - 1, place + 1, 3, 4, 10 ** 59, True, False, None, float(place), str(place)):
                self.told(with_row(RIGHT, k, (number, name, wrong, length, reach, leans)), False)
            for wrong in (-1, 3, 4, True, False, 1.0, 2.0, "None", "", [], 0 if length is None else None,
                          1 if length is None else length + 1, 2 if length is None else length - 1):
                self.told(with_row(RIGHT, k, (number, name, place, wrong, reach, leans)), False)
            for wrong in (reach - 1, reach + 1, -reach, 4, True, False, None, float(reach), str(reach)):
                self.told(with_row(RIGHT, k, (number, name, place, length, wrong, leans)), False)
            for wrong in ([], leans[1:], leans[:-1], leans + ["z"], ["aa"] + leans, leans + leans[-1:], tuple(leans),
                          dict.fromkeys(leans), set(leans), "".join(leans), None, [None], leans + [None], [0], True,
                          leans[:-1] + [leans]):
                self.told(with_row(RIGHT, k, (number, name, place, length, reach, wrong)), False)
            if len(leans) > 1:
                self.told(with_row(RIGHT, k, (number, name, place, length, reach, leans[::-1])), False)

    def test_truths_that_are_equal_to_the_right_numbers(self):
        book = [("n", ("none",)), ("x", ("any",))]
        self.told([(0, "n", 1, 0, 1, ["n"]), (1, "x", 0, 1, 1, ["x"])], True, book, "ab")
        self.told([(0, "n", 1, False, 1, ["n"])], False, book, "ab")
        self.told([(0, "n", True, 0, 1, ["n"])], False, book, "ab")
        self.told([(0, "n", 1, 0, True, ["n"])], False, book, "ab")
        self.told([(False, "n", 1, 0, 1, ["n"])], False, book, "ab")
        self.told([(1, "x", 0, True, 1, ["x"])], False, book, "ab")
        self.told([(1, "x", False, 1, 1, ["x"])], False, book, "ab")
        self.told([(True, "x", 0, 1, 1, ["x"])], False, book, "ab")

    def test_rows_of_other_shapes(self):
        self.told(tuple(RIGHT), False)
        self.told(dict(enumerate(RIGHT)), False)
        self.told((), False)
        self.told([[]], False)
        self.told([RIGHT], False)
        for k, row in enumerate(RIGHT):
            for wrong in (list(row), row[:5], row[1:], row + (None,), row + ([],), (row,), [row], (), None, row[5]):
                self.told(with_row(RIGHT, k, wrong), False)
            self.told(row, False)

    def test_things_of_every_kind(self):
        for odd in helper.odd_things():
            if odd != []:
                self.told(odd, False)
            self.told([odd], False)
            self.told(RIGHT + [odd], False)
            self.told([(odd,) * 6], False)
            for place in range(6):
                # Numbers have their own tests; this list is the right one.
                if type(odd) is not int and odd != ["a"]:
                    row = RIGHT[4][:place] + (odd,) + RIGHT[4][place + 1:]
                    self.told(with_row(RIGHT, 4, row), False)
            self.told(with_row(RIGHT, 4, (7, "a", 0, 1, 1, [odd])), False)
            self.told(with_row(RIGHT, 4, (7, "a", 0, 1, 1, ["a", odd])), False)

    def test_a_thing_that_is_equal_to_all(self):
        odd = helper.Alike()
        row = RIGHT[4]
        for place in range(6):
            self.told(with_row(RIGHT, 4, row[:place] + (odd,) + row[place + 1:]), False)
        self.told(with_row(RIGHT, 4, row[:5] + ([odd],)), False)
        self.told(odd, False)

    def test_random_lists(self):
        dice = random.Random(11)
        seen = {True: 0, False: 0}
        for book, text, rows in right_lists(11, 600, 8):
            self.told(rows, True, book, text)
            self.assertTrue(truly_right(book, text, rows))
            for near in self.near_by(dice, rows):
                expected = truly_right(book, text, near)
                seen[expected] += 1
                self.told(near, expected, book, text)
        self.assertGreater(min(seen.values()), 300)

    def near_by(self, dice, rows):
        k = dice.randrange(len(rows))
        number, name, place, length, reach, leans = rows[k]
        other = dice.choice(rows)
        near = [with_row(rows, k), dice.sample(rows, dice.randint(0, len(rows))), rows + [other]]
        near.append(with_row(rows, k, other[:1] + rows[k][1:]))
        near.append(with_row(rows, k, rows[k][:3] + other[3:]))
        near.append(with_row(rows, k, (number, name, other[2], length, reach, leans)))
        near.append(with_row(rows, k, (number, dice.choice("abcdefgh"), place, length, reach, leans)))
        near.append(with_row(rows, k, (number, name, place, length, reach + dice.choice((-1, 1)), leans)))
        near.append(with_row(rows, k, (number + dice.choice((-3, 50)), name, place, length, reach, leans)))
        return near

    def test_by_another_text_or_book(self):
        self.told(RIGHT, True, BOOK, "aabb")
        self.told(RIGHT, True, BOOK, "aab" * 100)
        self.told(RIGHT, False, BOOK, "aaab")
        self.told(RIGHT, True, BOOK, "aa")
        self.told(RIGHT, False, BOOK, "a")
        self.told(RIGHT, False, BOOK, "")
        self.told(RIGHT, True, BOOK + [("z", ("any",))], TEXT)
        self.told(RIGHT, True, BOOK[:3], TEXT)
        self.told(RIGHT, False, BOOK[:2], TEXT)
        self.told(RIGHT, False, sorted(BOOK + [("q", ("none",))]), TEXT)

    def test_long_lists(self):
        book = [("deep", ("first", "more", "none")), ("more", ("row", "sign", "deep")), ("none", ("none",)),
                ("sign", ("any",))]
        leans = ["deep", "more", "none", "sign"]
        rows = []
        for place in range(400):
            rows += [(4 * place, "sign", place, 1, 1, ["sign"]),
                     (4 * place + 1, "deep", place, 400 - place, 401 - place, leans),
                     (4 * place + 2, "more", place, 400 - place, 401 - place, leans)]
        rows += [(2000, "sign", 400, None, 1, ["sign"]), (2001, "none", 400, 0, 1, ["none"]),
                 (2002, "more", 400, None, 1, ["more", "sign"]), (2003, "deep", 400, 0, 1, leans)]
        self.told(rows, True, book, "x" * 400)
        self.told(rows[1:], False, book, "x" * 400)
        self.told(rows[2:], False, book, "x" * 400)
        self.told(rows[:-4] + rows[-3:], False, book, "x" * 400)
        self.told(rows, False, book, "x" * 399)
        self.told(rows, False, book, "x" * 401)


if __name__ == "__main__":
    unittest.main()
