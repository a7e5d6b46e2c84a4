"""Point 9: a wish turned to clauses, to the sign, and its answers led forth and back (with point 32)."""

import itertools
import unittest

from chainturn.clauses import clauses_hold
from chainturn.naming import back_naming, forth_naming, turn_naming
from chainturn.reading import read
from chainturn.wishes import parts, value, wish_holds
from helping import Refusing, all_truths, clauses_are_true, great_or

A = ("name", 0)
B = ("name", 1)
C = ("name", 2)
NOT_A = ("not", A)


def formulas_of(parts_left, names):
    """All formulas of just so many parts."""
    if parts_left == 1:
        yield from [("name", k) for k in range(names)]
        return
    for inner in formulas_of(parts_left - 1, names):
        yield ("not", inner)
    for size in range(1, parts_left - 1):
        for f, g in itertools.product(list(formulas_of(size, names)), list(formulas_of(parts_left - 1 - size, names))):
            yield ("and", f, g)
            yield ("or", f, g)


def joins_as_they_end(formula):
    """All ands and ors, found without calls within calls: as they begin from the right, turned round."""
    found = []
    left = [formula]
    while left:
        part = left.pop()
        if part[0] in ("and", "or"):
            found.append(part)
        if part[0] != "name":
            left.extend(part[1:])
    return found[::-1]


def some_formulas():
    for size in range(1, 7):
        yield from formulas_of(size, 2)
    texts = [
        "a | b & !c & d", "(a | b) & (!a | c) & !(b & c)", "!(a & !(b | !(c & !d)))", "a & (b & (c & (d & a)))",
        "((a & b) | (c & d)) & ((a | b) & (c | d))", "!!(!!a | !!b)", "a & !a", "(a | b) & !a & !b",
    ]
    for text in texts:
        yield read(text)[1][2]


def names_of(formula):
    return formula[1] + 1 if formula[0] == "name" else max(names_of(part) for part in formula[1:])


def deep(word, steps, turned_round):
    formula = A
    for _ in range(steps):
        formula = (word, B, formula) if turned_round else (word, formula, B)
    return formula


class Rows(unittest.TestCase):
    def check(self, n, formula, names, rows):
        with self.subTest(n=n, formula=formula):
            self.assertEqual(("clauses", names, rows), turn_naming(("wish", n, formula)))

    def test_a_name_alone(self):
        self.check(1, A, 1, [(1,)])
        self.check(2, B, 2, [(2,)])
        self.check(3, C, 3, [(3,)])

    def test_nots(self):
        self.check(1, NOT_A, 1, [(-1,)])
        self.check(3, ("not", C), 3, [(-3,)])
        self.check(1, ("not", NOT_A), 1, [(1,)])
        self.check(1, ("not", ("not", NOT_A)), 1, [(-1,)])
        self.check(2, ("not", ("not", ("not", ("not", B)))), 2, [(2,)])

    def test_one_and(self):
        self.check(2, ("and", A, B), 3, [(-3, 1), (-3, 2), (3, -1, -2), (3,)])
        self.check(2, ("and", B, A), 3, [(-3, 2), (-3, 1), (3, -2, -1), (3,)])
        self.check(1, ("and", A, A), 2, [(-2, 1), (-2, 1), (2, -1, -1), (2,)])
        self.check(1, ("and", A, NOT_A), 2, [(-2, 1), (-2, -1), (2, -1, 1), (2,)])
        self.check(2, ("and", NOT_A, ("not", ("not", B))), 3, [(-3, -1), (-3, 2), (3, 1, -2), (3,)])

    def test_one_or(self):
        self.check(2, ("or", A, B), 3, [(3, -1), (3, -2), (-3, 1, 2), (3,)])
        self.check(2, ("or", B, A), 3, [(3, -2), (3, -1), (-3, 2, 1), (3,)])
        self.check(1, ("or", A, A), 2, [(2, -1), (2, -1), (-2, 1, 1), (2,)])
        self.check(1, ("or", NOT_A, A), 2, [(2, 1), (2, -1), (-2, -1, 1), (2,)])
        self.check(2, ("or", A, ("not", B)), 3, [(3, -1), (3, 2), (-3, 1, -2), (3,)])

    def test_nots_of_new_names(self):
        self.check(2, ("not", ("and", A, B)), 3, [(-3, 1), (-3, 2), (3, -1, -2), (-3,)])
        self.check(2, ("not", ("not", ("or", A, B))), 3, [(3, -1), (3, -2), (-3, 1, 2), (3,)])
        self.check(2, ("and", ("not", ("or", A, B)), B), 4,
                   [(3, -1), (3, -2), (-3, 1, 2), (-4, -3), (-4, 2), (4, 3, -2), (4,)])

    def test_the_parts_of_f_then_those_of_g_then_the_part_itself(self):
        self.check(3, ("or", ("and", A, B), C), 5,
                   [(-4, 1), (-4, 2), (4, -1, -2), (5, -4), (5, -3), (-5, 4, 3), (5,)])
        self.check(3, ("and", A, ("or", B, C)), 5,
                   [(4, -2), (4, -3), (-4, 2, 3), (-5, 1), (-5, 4), (5, -1, -4), (5,)])
        self.check(4, ("or", ("and", A, B), ("and", C, ("name", 3))), 7,
                   [(-5, 1), (-5, 2), (5, -1, -2), (-6, 3), (-6, 4), (6, -3, -4), (7, -5), (7, -6), (-7, 5, 6), (7,)])
        # Both sides have parts within parts: f's are all named ahead of g's.
        f = ("or", ("and", A, B), C)
        g = ("and", ("not", ("or", C, A)), B)
        self.check(3, ("not", ("and", f, g)), 8, [
            (-4, 1), (-4, 2), (4, -1, -2),
            (5, -4), (5, -3), (-5, 4, 3),
            (6, -3), (6, -1), (-6, 3, 1),
            (-7, -6), (-7, 2), (7, 6, -2),
            (-8, 5), (-8, 7), (8, -5, -7),
            (-8,),
        ])

    def test_the_documents_wish(self):
        self.assertEqual(("clauses", 7, [
            (-5, 2), (-5, -3), (5, -2, 3),
            (-6, 5), (-6, 4), (6, -5, -4),
            (7, -1), (7, -6), (-7, 1, 6),
            (7,),
        ]), turn_naming(read("a | b & !c & d")[1]))

    def test_one_part_told_twice_has_two_new_names(self):
        twice = ("and", A, B)
        self.check(2, ("or", twice, twice), 5, [
            (-3, 1), (-3, 2), (3, -1, -2),
            (-4, 1), (-4, 2), (4, -1, -2),
            (5, -3), (5, -4), (-5, 3, 4),
            (5,),
        ])

    def test_more_names_than_the_formula_has(self):
        self.check(4, A, 4, [(1,)])
        self.check(5, ("not", B), 5, [(-2,)])
        self.check(6, ("and", A, B), 7, [(-7, 1), (-7, 2), (7, -1, -2), (7,)])
        self.check(4, ("or", ("or", C, C), A), 6,
                   [(5, -3), (5, -3), (-5, 3, 3), (6, -5), (6, -1), (-6, 5, 1), (6,)])

    def test_the_kinds_of_what_is_given_back(self):
        for formula in some_formulas():
            question = turn_naming(("wish", 4, formula))
            self.assertIs(tuple, type(question))
            self.assertEqual(3, len(question))
            self.assertIs(int, type(question[1]))
            self.assertIs(list, type(question[2]))
            for row in question[2]:
                self.assertIs(tuple, type(row))
                self.assertTrue(all(type(sign) is int and 0 < abs(sign) <= question[1] for sign in row))


class Answers(unittest.TestCase):
    def test_forth_to_the_truth(self):
        f = ("or", ("and", A, B), C)
        g = ("and", ("not", ("or", C, A)), B)
        for formula, truths, told in [
            (A, [True], []),
            (NOT_A, [False], []),
            (("and", A, B), [True, True], [True]),
            (("or", A, B), [True, False], [True]),
            (("or", A, B), [False, True], [True]),
            (("not", ("and", A, B)), [True, False], [False]),
            (("not", ("or", A, B)), [False, False], [False]),
            (("or", ("and", A, B), C), [True, True, False], [True, True]),
            (("or", ("and", A, B), C), [True, False, True], [False, True]),
            (("not", ("and", f, g)), [True, True, True], [True, True, True, False, False]),
            (("not", ("and", f, g)), [False, True, False], [False, False, False, True, False]),
            (("not", ("and", f, g)), [False, False, True], [False, True, True, False, False]),
        ]:
            with self.subTest(formula=formula, truths=truths):
                self.assertEqual(truths + told, forth_naming(("wish", len(truths), formula), truths))

    def test_names_that_the_formula_has_not_are_led_along(self):
        for truths in all_truths(4):
            if truths[0] and truths[2]:
                self.assertEqual(truths + [True], forth_naming(("wish", 4, ("and", A, C)), truths))
                self.assertEqual(truths, back_naming(("wish", 4, ("and", A, C)), truths + [True]))

    def test_whether_each_part_is_true(self):
        for formula in some_formulas():
            n = names_of(formula)
            for truths in all_truths(n):
                if value(formula, truths):
                    told = [value(part, truths) for part in joins_as_they_end(formula)]
                    self.assertEqual(truths + told, forth_naming(("wish", n, formula), truths), formula)

    def test_forth_holds_and_back_is_the_answer_itself(self):
        for formula in some_formulas():
            question = ("wish", names_of(formula), formula)
            turned = turn_naming(question)
            for truths in all_truths(question[1]):
                if wish_holds(question, truths):
                    led = forth_naming(question, truths)
                    self.assertIs(list, type(led))
                    self.assertTrue(all(type(truth) is bool for truth in led))
                    self.assertIs(True, clauses_hold(turned, led))
                    self.assertEqual(truths, back_naming(question, led))

    def test_every_answer_of_the_turned_clauses_is_led_back(self):
        for formula in some_formulas():
            question = ("wish", names_of(formula), formula)
            turned = turn_naming(question)
            if turned[1] > 9:
                continue
            met = []
            for truths in all_truths(turned[1]):
                if clauses_are_true(turned[2], truths):
                    back = back_naming(question, truths)
                    self.assertIs(list, type(back))
                    self.assertEqual(truths[:question[1]], back)
                    self.assertIs(True, wish_holds(question, back))
                    met.append(back)
            # Just the answers of the wish: so a wish that has none is turned to clauses that have none.
            self.assertEqual([truths for truths in all_truths(question[1]) if value(formula, truths)], met)

    def test_a_wish_without_an_answer(self):
        for text in ("a & !a", "!(a | !a)", "(a | b) & !a & !b", "a & b & !(a & b)"):
            turned = turn_naming(read(text)[1])
            for truths in all_truths(turned[1]):
                self.assertIs(False, clauses_hold(turned, truths))


class Refused(Refusing):
    def test_forth_of_wrong_truths(self):
        for formula in some_formulas():
            n = names_of(formula)
            for truths in all_truths(n):
                if not value(formula, truths):
                    self.refused(forth_naming, ("wish", n, formula), truths)

    def test_forth_of_lists_of_another_length(self):
        for formula, n in [(A, 1), (NOT_A, 1), (("or", A, B), 2), (("not", ("and", A, B)), 2), (A, 3)]:
            for length in [length for length in range(n + 4) if length != n]:
                for truths in all_truths(length):
                    self.refused(forth_naming, ("wish", n, formula), truths)

    def test_back_of_wrong_truths(self):
        for formula in some_formulas():
            question = ("wish", names_of(formula), formula)
            turned = turn_naming(question)
            if turned[1] <= 6:
                for truths in all_truths(turned[1]):
                    if not clauses_are_true(turned[2], truths):
                        self.refused(back_naming, question, truths)

    def test_back_of_right_truths_with_a_new_name_wrong(self):
        question = ("wish", 3, ("or", ("and", A, B), C))
        self.assertEqual([True, True, True], back_naming(question, [True, True, True, True, True]))
        self.refused(back_naming, question, [True, True, True, False, True])
        self.refused(back_naming, question, [True, True, True, True, False])

    def test_back_of_lists_of_another_length(self):
        for formula, n in [(A, 1), (NOT_A, 1), (("or", A, B), 2), (("not", ("and", A, B)), 2), (A, 3)]:
            names = turn_naming(("wish", n, formula))[1]
            for length in [length for length in range(names + 3) if length != names]:
                for truths in all_truths(length):
                    self.refused(back_naming, ("wish", n, formula), truths)

    def test_an_answer_of_the_wish_is_none_of_the_clauses(self):
        question = ("wish", 2, ("and", A, B))
        self.refused(back_naming, question, [True, True])
        self.refused(forth_naming, question, [True, True, True])


class Great(unittest.TestCase):
    def test_70_deep_and_somewhat_more(self):
        for steps in (69, 70, 71, 90):
            for word in ("and", "or"):
                for turned_round in (False, True):
                    question = ("wish", 2, deep(word, steps, turned_round))
                    turned = turn_naming(question)
                    self.assertEqual((2 + steps, 3 * steps + 1), (turned[1], len(turned[2])))
                    self.assertEqual((2 + steps,), turned[2][-1])
                    led = forth_naming(question, [True, True])
                    self.assertEqual([True] * (2 + steps), led)
                    self.assertEqual([True, True], back_naming(question, led))

    def test_150_parts(self):
        question = ("wish", 75, ("not", great_or(75)))
        self.assertEqual(150, parts(question[2]))
        turned = turn_naming(question)
        self.assertEqual((149, 3 * 74 + 1), (turned[1], len(turned[2])))
        self.assertEqual([False] * 149, forth_naming(question, [False] * 75))
        self.assertEqual([False] * 75, back_naming(question, [False] * 149))


if __name__ == "__main__":
    unittest.main()
