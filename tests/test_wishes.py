"""Point 4: formulas, their parts, and when a list of truths holds for a wish (with point 3)."""

import unittest

from chainturn.wishes import parts, value, wish_holds
from helping import all_truths

A = ("name", 0)
B = ("name", 1)
C = ("name", 2)

# Each formula beside its number of names, its number of parts, and its meaning in Python's own words.
FORMULAS = [
    (A, 1, 1, lambda a: a),
    (B, 2, 1, lambda a, b: b),
    (C, 3, 1, lambda a, b, c: c),
    (("not", A), 1, 2, lambda a: not a),
    (("not", ("not", A)), 1, 3, lambda a: a),
    (("and", A, B), 2, 3, lambda a, b: a and b),
    (("or", A, B), 2, 3, lambda a, b: a or b),
    (("and", B, A), 2, 3, lambda a, b: b and a),
    (("and", A, ("not", B)), 2, 4, lambda a, b: a and not b),
    (("and", ("not", A), B), 2, 4, lambda a, b: b and not a),
    (("or", ("not", A), B), 2, 4, lambda a, b: b or not a),
    (("not", ("or", A, B)), 2, 4, lambda a, b: not (a or b)),
    (("not", ("and", A, B)), 2, 4, lambda a, b: not (a and b)),
    (("and", A, ("or", B, C)), 3, 5, lambda a, b, c: a and (b or c)),
    (("or", ("and", A, B), C), 3, 5, lambda a, b, c: (a and b) or c),
    (("or", A, ("and", B, C)), 3, 5, lambda a, b, c: a or (b and c)),
    (("and", ("or", A, B), C), 3, 5, lambda a, b, c: (a or b) and c),
    (("and", A, ("not", A)), 1, 4, lambda a: False),
    (("or", ("not", A), A), 1, 4, lambda a: True),
    (("or", ("and", A, ("not", B)), ("and", ("not", A), B)), 2, 9, lambda a, b: a != b),
]


class Values(unittest.TestCase):
    def test_by_all_truths(self):
        for formula, n, _, meaning in FORMULAS:
            for truths in all_truths(n):
                with self.subTest(formula=formula, truths=truths):
                    self.assertIs(meaning(*truths), value(formula, truths))

    def test_names_that_the_formula_has_not_count_for_nothing(self):
        for truths in all_truths(4):
            self.assertIs(truths[2], value(C, truths))


class Parts(unittest.TestCase):
    def test_how_many(self):
        for formula, _, many, _ in FORMULAS:
            with self.subTest(formula=formula):
                self.assertEqual(many, parts(formula))

    def test_a_part_told_twice_counts_twice(self):
        twice = ("and", A, A)
        self.assertEqual(3, parts(twice))
        self.assertEqual(7, parts(("or", twice, twice)))
        self.assertEqual(9, parts(("or", ("not", twice), ("not", twice))))


class Holding(unittest.TestCase):
    def test_holds_just_where_the_formula_is_true(self):
        for formula, n, _, meaning in FORMULAS:
            for truths in all_truths(n):
                with self.subTest(formula=formula, truths=truths):
                    self.assertIs(meaning(*truths), wish_holds(("wish", n, formula), truths))

    def test_names_beyond_those_of_the_formula_belong_to_the_answer(self):
        for truths in all_truths(3):
            self.assertIs(truths[1], wish_holds(("wish", 3, B), truths))

    def test_lists_of_another_length_do_not_hold(self):
        for formula, n, _, _ in FORMULAS:
            question = ("wish", n, formula)
            for length in range(n + 3):
                if length == n:
                    continue
                for truths in all_truths(length):
                    with self.subTest(formula=formula, truths=truths):
                        self.assertIs(False, wish_holds(question, truths))

    def test_a_list_that_reaches_the_names_but_not_n_does_not_hold(self):
        self.assertIs(False, wish_holds(("wish", 5, A), [True]))
        self.assertIs(False, wish_holds(("wish", 5, A), [True] * 4))
        self.assertIs(True, wish_holds(("wish", 5, A), [True] * 5))
        self.assertIs(False, wish_holds(("wish", 5, A), [True] * 6))

    def test_the_empty_list_does_not_hold(self):
        self.assertIs(False, wish_holds(("wish", 1, A), []))
        self.assertIs(False, wish_holds(("wish", 1, ("not", A)), []))


if __name__ == "__main__":
    unittest.main()
