"""Points 7 and 8: signs, clauses and threes, and when a list of truths holds (with point 3)."""

import unittest

from chainturn.clauses import clauses_hold, right
from helping import all_truths


class Signs(unittest.TestCase):
    def test_both_sides_of_a_name(self):
        self.assertIs(True, right(1, [True]))
        self.assertIs(False, right(1, [False]))
        self.assertIs(False, right(-1, [True]))
        self.assertIs(True, right(-1, [False]))

    def test_each_sign_speaks_of_its_own_name(self):
        for truths in all_truths(4):
            for k in range(4):
                with self.subTest(truths=truths, k=k):
                    self.assertIs(truths[k], right(k + 1, truths))
                    self.assertIs(not truths[k], right(-(k + 1), truths))


class Holding(unittest.TestCase):
    def check(self, n, rows, meaning):
        words = ["clauses"]
        if all(len(row) == 3 for row in rows):
            words.append("threes")
        for word in words:
            for truths in all_truths(n):
                with self.subTest(word=word, rows=rows, truths=truths):
                    self.assertIs(meaning(*truths), clauses_hold((word, n, rows), truths))

    def test_one_row(self):
        self.check(1, [(1,)], lambda a: a)
        self.check(1, [(-1,)], lambda a: not a)
        self.check(2, [(1, 2)], lambda a, b: a or b)
        self.check(2, [(1, -2)], lambda a, b: a or not b)
        self.check(3, [(3, -1)], lambda a, b, c: c or not a)
        self.check(4, [(1, 2, 3, -4)], lambda a, b, c, d: a or b or c or not d)

    def test_each_row_needs_a_right_sign(self):
        self.check(2, [(1,), (2,)], lambda a, b: a and b)
        self.check(2, [(1,), (-2,)], lambda a, b: a and not b)
        self.check(2, [(1, 2), (-1, -2)], lambda a, b: a != b)
        self.check(3, [(1, 2), (2, 3), (-2,)], lambda a, b, c: a and c and not b)
        self.check(1, [(1,), (-1,)], lambda a: False)

    def test_no_rows(self):
        self.check(0, [], lambda: True)
        self.check(1, [], lambda a: True)
        self.check(3, [], lambda a, b, c: True)

    def test_a_row_without_signs_is_never_right(self):
        self.check(0, [()], lambda: False)
        self.check(1, [()], lambda a: False)
        self.check(2, [(1, -1), ()], lambda a, b: False)
        self.check(2, [(), (2,)], lambda a, b: False)

    def test_rows_that_come_twice(self):
        self.check(2, [(1, 2), (1, 2)], lambda a, b: a or b)
        self.check(2, [(-1,), (2,), (-1,)], lambda a, b: b and not a)

    def test_signs_that_come_twice(self):
        self.check(1, [(1, 1)], lambda a: a)
        self.check(2, [(-2, -2, -2)], lambda a, b: not b)
        self.check(2, [(1, 2, 1), (2, 2, 1)], lambda a, b: a or b)

    def test_a_sign_beside_its_other(self):
        self.check(1, [(1, -1)], lambda a: True)
        self.check(2, [(1, -1), (2,)], lambda a, b: b)
        self.check(2, [(-2, 2, 1)], lambda a, b: True)

    def test_threes(self):
        self.check(3, [(1, 2, 3)], lambda a, b, c: a or b or c)
        self.check(3, [(-1, -2, -3)], lambda a, b, c: not (a and b and c))
        self.check(3, [(1, 1, 1), (-2, 3, 3)], lambda a, b, c: a and (c or not b))
        self.check(1, [(1, 1, 1), (-1, -1, -1)], lambda a: False)

    def test_lists_of_another_length_do_not_hold(self):
        for word in ("clauses", "threes"):
            for n, rows in [(0, []), (1, []), (2, []), (1, [(1, 1, -1)]), (2, [(1, -1, 1)]), (3, [(1, 1, 1)]),
                            (3, [(-3, 2, 1)])]:
                for length in range(n + 3):
                    if length == n:
                        continue
                    for truths in all_truths(length):
                        with self.subTest(word=word, n=n, rows=rows, truths=truths):
                            self.assertIs(False, clauses_hold((word, n, rows), truths))

    def test_many_names_and_rows(self):
        n = 2000
        rows = [(k + 1, -(n - k), 1) for k in range(n)]
        for word in ("clauses", "threes"):
            self.assertIs(True, clauses_hold((word, n, rows), [True] * n))
            self.assertIs(True, clauses_hold((word, n, rows), [False] * n))
            self.assertIs(False, clauses_hold((word, n, rows), [False] * (n - 1) + [True]))


if __name__ == "__main__":
    unittest.main()
