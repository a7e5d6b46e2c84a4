"""Point 10: clauses turned to threes, to the sign, and their answers led forth and back (with point 32)."""

import unittest

from chainturn.clauses import clauses_hold
from chainturn.splitting import back_splitting, forth_splitting, turn_splitting
from helping import Refusing, all_truths, clauses_are_true, some_clauses


def small_clauses():
    """Clauses whose threes have few enough names for all their truths to be tried."""
    for question in some_clauses(10, 150, most_rows=5, most_signs=6):
        if turn_splitting(question)[1] <= 10:
            yield question


class Rows(unittest.TestCase):
    def check(self, n, rows, names, threes):
        with self.subTest(n=n, rows=rows):
            self.assertEqual(("threes", names, threes), turn_splitting(("clauses", n, rows)))

    def test_no_rows(self):
        self.check(0, [], 0, [])
        self.check(1, [], 1, [])
        self.check(7, [], 7, [])

    def test_a_row_without_signs(self):
        self.check(0, [()], 1, [(1, 1, 1), (-1, -1, -1)])
        self.check(2, [()], 3, [(3, 3, 3), (-3, -3, -3)])

    def test_one_sign(self):
        self.check(1, [(1,)], 1, [(1, 1, 1)])
        self.check(3, [(-2,)], 3, [(-2, -2, -2)])

    def test_two_signs(self):
        self.check(2, [(1, 2)], 2, [(1, 2, 2)])
        self.check(2, [(-2, 1)], 2, [(-2, 1, 1)])
        self.check(1, [(1, -1)], 1, [(1, -1, -1)])
        self.check(1, [(1, 1)], 1, [(1, 1, 1)])

    def test_three_signs(self):
        self.check(3, [(3, -1, 2)], 3, [(3, -1, 2)])
        self.check(1, [(1, 1, -1)], 1, [(1, 1, -1)])
        self.check(5, [(-5, -5, -5)], 5, [(-5, -5, -5)])

    def test_four_signs(self):
        self.check(4, [(1, 2, 3, 4)], 5, [(1, 2, 5), (-5, 3, 4)])
        self.check(6, [(-4, 3, -2, 1)], 7, [(-4, 3, 7), (-7, -2, 1)])
        self.check(1, [(1, 1, 1, -1)], 2, [(1, 1, 2), (-2, 1, -1)])

    def test_five_signs(self):
        self.check(5, [(1, -2, 3, -4, 5)], 7, [(1, -2, 6), (-6, 3, 7), (-7, -4, 5)])
        self.check(1, [(1, 1, -1, -1, 1)], 3, [(1, 1, 2), (-2, -1, 3), (-3, -1, 1)])

    def test_nine_signs(self):
        self.check(9, [(1, 2, 3, -4, 5, 6, -7, 8, 9)], 15, [
            (1, 2, 10), (-10, 3, 11), (-11, -4, 12), (-12, 5, 13), (-13, 6, 14), (-14, -7, 15), (-15, 8, 9),
        ])

    def test_new_names_are_numbered_over_all_rows(self):
        self.check(5, [(1, 2, 3, 4), (), (5,), (-1, -2, -3, -4, -5), (1, 2), (1, 2, 3), (5, 4, 3, 2), ()], 11, [
            (1, 2, 6), (-6, 3, 4),
            (7, 7, 7), (-7, -7, -7),
            (5, 5, 5),
            (-1, -2, 8), (-8, -3, 9), (-9, -4, -5),
            (1, 2, 2),
            (1, 2, 3),
            (5, 4, 10), (-10, 3, 2),
            (11, 11, 11), (-11, -11, -11),
        ])

    def test_a_row_that_comes_twice_has_new_names_twice(self):
        self.check(4, [(1, 2, 3, 4), (1, 2, 3, 4)], 6, [(1, 2, 5), (-5, 3, 4), (1, 2, 6), (-6, 3, 4)])
        self.check(1, [(), ()], 3, [(2, 2, 2), (-2, -2, -2), (3, 3, 3), (-3, -3, -3)])
        self.check(2, [(2,), (2,)], 2, [(2, 2, 2), (2, 2, 2)])

    def test_the_kinds_of_what_is_given_back(self):
        for question in list(some_clauses(11, 100, most_signs=9)) + [("clauses", 2, [])]:
            turned = turn_splitting(question)
            self.assertIs(tuple, type(turned))
            self.assertEqual(3, len(turned))
            self.assertIs(int, type(turned[1]))
            self.assertIs(list, type(turned[2]))
            for row in turned[2]:
                self.assertIs(tuple, type(row))
                self.assertEqual(3, len(row))
                self.assertTrue(all(type(sign) is int and 0 < abs(sign) <= turned[1] for sign in row))


class Answers(unittest.TestCase):
    def test_forth_by_the_place_of_the_first_right_sign(self):
        for size in range(4, 10):
            row = tuple(k + 1 if k % 3 else -(k + 1) for k in range(size))
            wrong = [sign < 0 for sign in row]
            for place in range(size):
                # The signs behind the first right one count for nothing.
                for behind in (False, True):
                    truths = [wrong[k] != (k == place or (behind and k > place)) for k in range(size)]
                    told = [place > t for t in range(1, size - 2)]
                    with self.subTest(size=size, place=place, behind=behind):
                        self.assertEqual(truths + told, forth_splitting(("clauses", size, [row]), truths))

    def test_forth_of_short_rows_adds_nothing(self):
        rows = [(1,), (1, 2), (-3, 2, 1)]
        for truths in all_truths(3):
            if truths[0]:
                self.assertEqual(truths, forth_splitting(("clauses", 3, rows), truths))
        self.assertEqual([], forth_splitting(("clauses", 0, []), []))
        self.assertEqual([False, True], forth_splitting(("clauses", 2, []), [False, True]))

    def test_forth_over_several_rows(self):
        question = ("clauses", 5, [(1, 2, 3, 4), (5,), (-5, -5, -5, 4, 2, -5, 3), (-4, -5, 3, 2, 1)])
        truths = [False, False, True, False, True]
        self.assertEqual(truths + [True] + [True, True, True, True] + [False, False],
                         forth_splitting(question, truths))
        truths = [True, False, False, True, True]
        self.assertEqual(truths + [False] + [True, True, False, False] + [True, True],
                         forth_splitting(question, truths))

    def test_forth_holds_and_back_is_the_answer_itself(self):
        for question in some_clauses(12, 400, most_rows=4, most_signs=9):
            turned = turn_splitting(question)
            for truths in all_truths(question[1]):
                if clauses_are_true(question[2], truths):
                    led = forth_splitting(question, truths)
                    told = [not any(truths[abs(sign) - 1] == (sign > 0) for sign in row[:t + 1])
                            for row in question[2] for t in range(1, len(row) - 2)]
                    self.assertEqual(truths + told, led)
                    self.assertIs(list, type(led))
                    self.assertTrue(all(type(truth) is bool for truth in led))
                    self.assertIs(True, clauses_hold(turned, led))
                    self.assertEqual(truths, back_splitting(question, led))

    def test_every_answer_of_the_turned_threes_is_led_back(self):
        tried = 0
        for question in small_clauses():
            turned = turn_splitting(question)
            met = []
            for truths in all_truths(turned[1]):
                if clauses_are_true(turned[2], truths):
                    back = back_splitting(question, truths)
                    self.assertIs(list, type(back))
                    self.assertEqual(truths[:question[1]], back)
                    self.assertIs(True, clauses_hold(question, back))
                    met.append(back)
                    tried = tried + 1
            for truths in all_truths(question[1]):
                self.assertEqual(clauses_are_true(question[2], truths), truths in met)
        self.assertGreater(tried, 1000)

    def test_new_names_that_forth_would_not_give_are_led_back_too(self):
        question = ("clauses", 4, [(1, 2, 3, 4)])
        self.assertEqual([True, True, True, False, False], forth_splitting(question, [True, True, True, False]))
        self.assertEqual([True, True, True, False], back_splitting(question, [True, True, True, False, False]))
        self.assertEqual([True, True, True, False], back_splitting(question, [True, True, True, False, True]))

    def test_a_row_without_signs_is_turned_to_threes_without_an_answer(self):
        for n, rows in [(0, [()]), (1, [()]), (2, [(1, 2), ()]), (2, [(), (1,)]), (4, [(1, 2, 3, 4), (), (-1,)])]:
            turned = turn_splitting(("clauses", n, rows))
            for truths in all_truths(turned[1]):
                self.assertIs(False, clauses_hold(turned, truths))


class Refused(Refusing):
    def test_forth_of_wrong_truths(self):
        for question in some_clauses(13, 200):
            for truths in all_truths(question[1]):
                if not clauses_are_true(question[2], truths):
                    self.refused(forth_splitting, question, truths)

    def test_forth_where_there_is_a_row_without_signs(self):
        self.refused(forth_splitting, ("clauses", 0, [()]), [])
        for truths in all_truths(2):
            self.refused(forth_splitting, ("clauses", 2, [(1, -1), ()]), truths)

    def test_back_of_wrong_truths(self):
        for question in small_clauses():
            turned = turn_splitting(question)
            if turned[1] <= 6:
                for truths in all_truths(turned[1]):
                    if not clauses_are_true(turned[2], truths):
                        self.refused(back_splitting, question, truths)

    def test_back_of_right_truths_with_a_new_name_wrong(self):
        question = ("clauses", 4, [(1, 2, 3, 4)])
        self.refused(back_splitting, question, [True, False, False, False, True])
        self.refused(back_splitting, question, [False, False, False, True, False])

    def test_lists_of_another_length(self):
        for n, rows in [(1, []), (2, []), (1, [(1,)]), (2, [(1, -1)]), (3, [(3, 3, 3)]), (4, [(1, 2, 3, 4)]),
                        (1, [(1, 1, 1, -1, 1)]), (2, [()])]:
            question = ("clauses", n, rows)
            for deed, names in [(forth_splitting, n), (back_splitting, turn_splitting(question)[1])]:
                for length in [length for length in range(names + 3) if length != names]:
                    for truths in all_truths(length):
                        self.refused(deed, question, truths)

    def test_no_names_and_a_list_of_one(self):
        for deed in (forth_splitting, back_splitting):
            self.refused(deed, ("clauses", 0, []), [True])
            self.assertEqual([], deed(("clauses", 0, []), []))


class Great(unittest.TestCase):
    def test_a_row_of_a_thousand_signs(self):
        n = 1000
        row = tuple(range(1, n + 1))
        question = ("clauses", n, [row])
        turned = turn_splitting(question)
        self.assertEqual((n + n - 3, n - 2), (turned[1], len(turned[2])))
        self.assertEqual([(1, 2, 1001), (-1001, 3, 1002)], turned[2][:2])
        self.assertEqual([(-1996, 998, 1997), (-1997, 999, 1000)], turned[2][-2:])
        truths = [False] * (n - 1) + [True]
        led = forth_splitting(question, truths)
        self.assertEqual(truths + [True] * (n - 3), led)
        self.assertEqual(truths, back_splitting(question, led))

    def test_two_thousand_rows(self):
        rows = [(k % 20 + 1, -(k % 7 + 1), 3)[:k % 3 + 1] for k in range(2000)]
        question = ("clauses", 20, rows)
        turned = turn_splitting(question)
        self.assertEqual((20, 2000), (turned[1], len(turned[2])))
        self.assertEqual([True] * 20, forth_splitting(question, [True] * 20))
        self.assertEqual([True] * 20, back_splitting(question, [True] * 20))


if __name__ == "__main__":
    unittest.main()
