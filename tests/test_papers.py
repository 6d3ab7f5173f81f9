import copy
import random
import unittest

import helper
from keptreading import errors
from keptreading.papers import is_paper, paper
from keptreading.readings import reading

ROWS = [("a", ("signs", "a")), ("e", ("none",)), ("far", ("row", "x", "x", "x")), ("look", ("ahead", "far")),
        ("many", ("again", "a")), ("nor", ("not", "a")), ("one", ("first", "q", "a", "e")), ("r", ("row", "look", "x")),
        ("s", ("row", "one", "p", "x")), ("x", ("any",))]
FORMS = dict(ROWS)


# Whether a paper whose parts are all of the right kinds is right, by a second working-out.
def truly_right(thing):
    name, length, reach, signs, ends, rules = thing
    names = [own for own, form in rules]
    book = [(own, form) for own, form in rules if form is not None]
    if names != sorted(set(names)) or helper.true_loops(book):
        return False
    told = helper.Truth(book, signs).reading(name, 0)
    return (length, reach, names) == (told[0], told[1], told[3]) and reach == len(signs) + int(ends)


def with_part(thing, place, part):
    return thing[:place] + (part,) + thing[place + 1:]


def right_papers(seed, many):
    papers = []
    for book, text in helper.read_cases(seed, many, 8):
        for name, place in helper.Truth(book, text).every([name for name, form in book] + ["z"]):
            papers.append(paper(book, name, text, place))
    return papers


class Papers(unittest.TestCase):
    def told(self, name, text, place, length, signs, ends, names):
        before = copy.deepcopy(ROWS)
        found = paper(ROWS, name, text, place)
        rules = [(own, FORMS.get(own)) for own in names.split()]
        expected = (name, length, len(signs) + int(ends), signs, ends, rules)
        self.assertEqual(found, expected)
        self.assertEqual(helper.kinds(found), helper.kinds(expected))
        self.assertIs(is_paper(found), True)
        self.assertEqual(ROWS, before)

    def test_signs_up_to_the_reach(self):
        self.told("a", "bab", 1, 1, "a", False, "a")
        self.told("a", "bab", 2, None, "b", False, "a")
        self.told("e", "bab", 0, 0, "b", False, "e")
        self.told("r", "abcd", 0, 1, "abc", False, "far look r x")
        self.told("r", "abcd", 1, 1, "bcd", False, "far look r x")
        self.told("many", "baab", 1, 2, "aab", False, "a many")
        self.told("nor", "baab", 1, None, "a", False, "a nor")

    def test_ends_where_the_reach_takes_in_the_end(self):
        self.told("a", "bab", 3, None, "", True, "a")
        self.told("e", "", 0, 0, "", True, "e")
        self.told("r", "abcd", 2, None, "cd", True, "far look r x")
        self.told("r", "abcd", 4, None, "", True, "far look r x")
        self.told("many", "baa", 1, 2, "aa", True, "a many")
        self.told("nor", "baa", 3, 0, "", True, "a nor")

    def test_rules_that_the_book_lacks(self):
        self.told("q", "ab", 0, None, "a", False, "q")
        self.told("q", "ab", 2, None, "", True, "q")
        self.told("one", "ab", 0, 1, "a", False, "a one q")
        self.told("one", "ab", 1, 0, "b", False, "a e one q")
        self.told("s", "abc", 0, None, "ab", False, "a one p q s")
        self.told("s", "bbc", 0, None, "b", False, "a e one p q s")

    def test_random_books(self):
        for book, text in helper.read_cases(5, 600, 8):
            truth = helper.Truth(book, text)
            for name, place in truth.every([name for name, form in book] + ["z"]):
                length, reach, asked, leans = truth.reading(name, place)
                signs = text[place:place + reach]
                rules = [(own, dict(book).get(own)) for own in leans]
                expected = (name, length, reach, signs, len(signs) < reach, rules)
                found = paper(book, name, text, place)
                self.assertEqual(found, expected)
                self.assertEqual(helper.kinds(found), helper.kinds(expected))

    def test_long_texts(self):
        text = "a" * 400
        self.told("many", text, 0, 400, text, True, "a many")
        self.told("many", text, 399, 1, "a", True, "a many")
        self.told("many", text[:399] + "b", 0, 399, text[:399] + "b", False, "a many")
        self.told("look", text, 100, 0, "aaa", False, "far look x")

    def test_the_list_is_new(self):
        book = [("a", ("any",)), ("b", ("row", "a"))]
        told = paper(book, "b", "x", 0)
        self.assertIsNot(told[5], book)
        told[5].clear()
        self.assertEqual(book, [("a", ("any",)), ("b", ("row", "a"))])
        self.assertEqual(paper(book, "b", "x", 0)[5], book)
        told = paper(book, "b", "x", 0)
        book.clear()
        self.assertEqual(told, ("b", 1, 1, "x", False, [("a", ("any",)), ("b", ("row", "a"))]))

    def test_refusals(self):
        helper.check_refusals(self, paper, errors)


class IsPaper(unittest.TestCase):
    def yes(self, thing):
        self.assertIs(is_paper(thing), True, repr(thing)[:300])

    def no(self, thing):
        self.assertIs(is_paper(thing), False, repr(thing)[:300])

    def test_papers_told(self):
        for thing in right_papers(6, 400):
            before = copy.deepcopy(thing)
            self.yes(thing)
            self.assertEqual(thing, before)

    def test_each_form(self):
        one = [("a", ("signs", "a"))]
        for thing in (
                ("r", 0, 1, "x", False, [("r", ("none",))]), ("r", 0, 1, "", True, [("r", ("none",))]),
                ("r", 1, 1, "x", False, [("r", ("any",))]), ("r", None, 1, "", True, [("r", ("any",))]),
                ("r", 1, 1, "x", False, [("r", ("signs", "xy"))]), ("r", None, 1, "z", False, [("r", ("signs", "xy"))]),
                ("r", 2, 2, "aa", False, one + [("r", ("row", "a", "a"))]),
                ("r", None, 2, "a", True, one + [("r", ("row", "a", "a"))]),
                ("r", 1, 1, "a", False, one + [("r", ("first", "a", "q"))]),
                ("r", None, 1, "b", False, one + [("q", None), ("r", ("first", "a", "q"))]),
                ("r", 2, 3, "aab", False, one + [("r", ("again", "a"))]),
                ("r", 2, 3, "aa", True, one + [("r", ("again", "a"))]),
                ("r", 0, 1, "a", False, one + [("r", ("ahead", "a"))]),
                ("r", None, 1, "a", False, one + [("r", ("not", "a"))]), ("r", None, 1, "a", False, [("r", None)]),
                ("r", None, 1, "", True, [("r", None)])):
            self.yes(thing)
            self.put_wrong(thing)

    def put_wrong(self, thing):
        name, length, reach, signs, ends, rules = thing
        for wrong in ("s", "a", "z", "", "R", None):
            self.no(with_part(thing, 0, wrong))
        wrong_lengths = [-1, 3, 4, "1", True, False, 1.0, 0.0, [], "None"]
        for wrong in wrong_lengths + ([0, 1] if length is None else [None, length - 1, length + 1]):
            self.no(with_part(thing, 1, wrong))
        for wrong in (reach - 1, reach + 1, -reach, 0, None, True, False, float(reach), str(reach)):
            self.no(with_part(thing, 2, wrong))
        for wrong in (signs + "a", signs + "%", signs[1:] + "%", signs[1:] + "\n", "%" + signs[1:], None, 0,
                      list(signs), ()):
            self.no(with_part(thing, 3, wrong))
        for wrong in (not ends, int(ends), int(not ends), None, "True", str(ends), []):
            self.no(with_part(thing, 4, wrong))
        # As many signs as before, so that the other end alone is wrong.
        self.no((name, length, reach + 1 - 2 * ends, signs, not ends, rules))

    def test_truths_in_the_place_of_numbers(self):
        self.yes(("r", 1, 1, "x", False, [("r", ("any",))]))
        self.no(("r", True, 1, "x", False, [("r", ("any",))]))
        self.no(("r", 1, True, "x", False, [("r", ("any",))]))
        self.no(("r", 1, 1, "x", 0, [("r", ("any",))]))
        self.yes(("r", 0, 1, "", True, [("r", ("none",))]))
        self.no(("r", False, 1, "", True, [("r", ("none",))]))
        self.no(("r", 0, True, "", True, [("r", ("none",))]))
        self.no(("r", 0, 1, "", 1, [("r", ("none",))]))

    def test_reach_and_signs_go_together(self):
        rules = [("a", ("signs", "a")), ("r", ("again", "a"))]
        self.yes(("r", 2, 3, "aab", False, rules))
        for length, reach, signs, ends in (
                (2, 3, "aabb", False), (2, 4, "aabb", False), (2, 2, "aa", False), (2, 2, "a", True),
                (2, 4, "aab", True), (2, 3, "aab", True), (2, 3, "aa", False), (2, 4, "aa", True),
                (3, 3, "aaa", False), (1, 2, "aa", False), (0, 0, "", False), (3, 4, "aab", False)):
            self.no(("r", length, reach, signs, ends, rules))

    def test_a_reach_that_takes_in_an_end_that_is_not_there(self):
        # Read at the end of its signs, it told something of that end.
        self.no(("r", None, 1, "", False, [("r", ("any",))]))
        self.no(("r", None, 0, "", False, [("r", ("any",))]))
        self.no(("r", 0, 0, "", False, [("r", ("none",))]))
        self.no(("r", 0, 1, "x", True, [("r", ("none",))]))
        self.no(("r", 0, 2, "x", True, [("r", ("none",))]))

    def test_rules_put_wrong(self):
        rules = [("a", ("signs", "a")), ("b", None), ("r", ("first", "b", "a"))]
        thing = ("r", 1, 1, "a", False, rules)
        self.yes(thing)
        wrong_rules = [
            rules[:2], rules[1:], rules[:1] + rules[2:], [], rules[::-1], [rules[1], rules[0], rules[2]],
            [rules[0], rules[2], rules[1]], rules + rules[2:], rules[:1] + rules, rules[:2] + rules[1:],
            rules + [("s", None)], rules + [("s", ("any",))], [("aa", None)] + rules,
            rules[:1] + [("aa", None)] + rules[1:], tuple(rules), dict(rules), None, rules[0], "r",
        ]
        for wrong in (("a", None), ("a", ("signs", "b")), ("a", ("signs", "")), ("a", ("signs", "ba")),
                      ("a", ["signs", "a"]), ("a", "signs"), ("a", False), ("a", ()), ("a", 0), ["a", ("signs", "a")],
                      ("a",), ("a", ("signs", "a"), 1)):
            wrong_rules.append([wrong] + rules[1:])
        for wrong in (("b", ("none",)), ("b", ("any",)), ("b", False), ("B", None), ("", None), (None, None), (1, None),
                      None, ["b", None], ("b",), ("b", None, None)):
            wrong_rules.append([rules[0], wrong, rules[2]])
        for form in (("first", "a", "b"), ("first", "a"), ("row", "b", "a"), ["first", "b", "a"], None):
            wrong_rules.append(rules[:2] + [("r", form)])
        for wrong in wrong_rules:
            self.no(with_part(thing, 5, wrong))
        # The same name twice, once with a form and once without.
        self.no(with_part(thing, 5, rules[:1] + [("a", None)] + rules[1:]))
        self.no(with_part(thing, 5, [("a", None)] + rules))

    def test_rules_that_loop(self):
        self.no(("a", None, 1, "x", False, [("a", ("row", "a"))]))
        self.no(("a", 0, 1, "x", False, [("a", ("again", "a"))]))
        self.no(("a", None, 1, "x", False, [("a", ("first", "b")), ("b", ("not", "a"))]))
        # These would be read without going round.
        self.no(("r", 1, 1, "x", False, [("b", ("any",)), ("r", ("first", "b", "r"))]))
        self.no(("r", 1, 1, "x", False, [("b", ("any",)), ("c", ("first", "b", "r")), ("r", ("first", "c"))]))
        self.yes(("r", 1, 1, "x", False, [("b", ("any",)), ("c", ("first", "b", "p")), ("r", ("first", "c", "q"))]))

    def test_a_part_more_or_less(self):
        thing = ("r", 0, 1, "x", False, [("r", ("none",))])
        self.yes(thing)
        self.no(list(thing))
        self.no((thing,))
        self.no([thing])
        self.no(())
        self.no(thing + (None,))
        self.no(thing + ([],))
        for k in range(6):
            self.no(thing[:k] + thing[k + 1:])
            self.no(thing[:k] + thing[k:k + 1] + thing[k:])
        for k in range(5):
            self.no(thing[:k] + (thing[k + 1], thing[k]) + thing[k + 2:])

    def test_things_of_every_kind_in_each_part(self):
        rules = [("a", ("signs", "a")), ("r", ("row", "a", "a"))]
        thing = ("r", 2, 2, "aa", False, rules)
        self.yes(thing)
        for odd in helper.odd_things():
            self.no(odd)
            self.no((odd,) * 6)
            for place in range(6):
                if odd is not False or place != 4:
                    self.no(with_part(thing, place, odd))
            for wrong in (odd, (odd, odd), ("a", odd), (odd, ("signs", "a")), ("a", ("signs", odd)), ("a", (odd, "a"))):
                self.no(with_part(thing, 5, [wrong] + rules[1:]))
            for wrong in (odd, ("r", odd), ("r", ("row", "a", odd)), ("r", ("row", odd, odd))):
                self.no(with_part(thing, 5, rules[:1] + [wrong]))
            self.no(with_part(thing, 5, [odd]))

    def test_a_thing_that_is_equal_to_all(self):
        thing = ("r", 1, 1, "x", False, [("r", ("signs", "x"))])
        odd = helper.Alike()
        for place in range(6):
            self.no(with_part(thing, place, odd))
        for wrong in (odd, (odd, ("signs", "x")), ("r", odd), ("r", (odd, "x")), ("r", ("signs", odd))):
            self.no(with_part(thing, 5, [wrong]))

    def test_near_by_papers(self):
        dice = random.Random(7)
        seen = {True: 0, False: 0}
        papers = right_papers(7, 250)
        for thing in papers:
            for near in self.near_by(dice, thing, dice.choice(papers)):
                expected = truly_right(near)
                seen[expected] += 1
                self.assertIs(is_paper(near), expected, near)
        self.assertGreater(min(seen.values()), 500)

    def near_by(self, dice, thing, other):
        name, length, reach, signs, ends, rules = thing
        k = dice.randrange(len(rules))
        own, form = rules[k]
        changed = dice.choice([None, helper.random_form(dice, ["a", "b", "f", "g", "h"]), dice.choice(other[5])[1]])
        near = [with_part(thing, place, other[place]) for place in range(6)]
        near.append(with_part(thing, 5, rules[:k] + [(own, changed)] + rules[k + 1:]))
        near.append(with_part(thing, 5, rules[:k] + rules[k + 1:]))
        near.append(with_part(thing, 5, sorted(rules + [("q", None)])))
        near.append((name, length, reach, "".join(dice.choice("abx+") for sign in signs), ends, rules))
        near.append((name, dice.choice([None, 0, 1, reach]), reach, signs, ends, rules))
        near.append((name, length, reach - 1, signs[:-1], ends, rules))
        near.append((name, length, reach + 1, signs + "a", ends, rules))
        return near


class HoldsElsewhere(unittest.TestCase):
    def elsewhere(self, dice, thing, length):
        name, told_length, reach, signs, ends, rules = thing
        ahead = "".join(dice.choice("abx+") for k in range(length))
        behind = "" if ends else "".join(dice.choice("abx+") for k in range(dice.randint(0, 5)))
        owned = [name for name, form in rules]
        more = [(name, helper.random_form(dice, list("abcdefgh"))) for name in ("i", "ii", "j") if name not in owned]
        book = sorted([rule for rule in rules if rule[1] is not None] + more)
        if helper.true_loops(book):
            return False
        told = reading(book, name, ahead + signs + behind, length)
        self.assertEqual((told[0], told[1], told[3]), (told_length, reach, owned), (thing, book, ahead, behind))
        self.assertEqual(paper(book, name, ahead + signs + behind, length), thing)
        return True

    def test_at_other_places_by_other_books(self):
        dice = random.Random(8)
        held = 0
        for thing in right_papers(8, 300):
            for length in (0, 1, dice.randint(2, 30)):
                held += self.elsewhere(dice, thing, length)
        self.assertGreater(held, 5000)

    def test_by_hand(self):
        thing = paper(ROWS, "r", "abcd", 0)
        self.assertEqual(thing[3:5], ("abc", False))
        for text, place in (("abc", 0), ("xxabc", 2), ("abcabcabc", 3), ("abcabcabc", 6)):
            self.assertEqual(paper(ROWS, "r", text, place), thing)
        thing = paper(ROWS, "r", "abcd", 3)
        self.assertEqual(thing[3:5], ("d", True))
        self.assertEqual(paper(ROWS, "r", "aad", 2), thing)
        self.assertNotEqual(paper(ROWS, "r", "adadad", 1), thing)


if __name__ == "__main__":
    unittest.main()
