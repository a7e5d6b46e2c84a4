"""Point 24: threes turned to sums, to the number, and their answers led forth and back (with points 1 and 32)."""

import itertools
import unittest

from chainturn.figures import back_figures, forth_figures, turn_figures
from chainturn.sums import sums_hold
from helping import LeadingOn, all_choices, all_threes, all_truths, are_truths, come_to, no_choices, some_threes

DEEDS = (turn_figures, forth_figures, back_figures)


def told_numbers(n, rows):
    """The numbers and the goal by the words of the document, figure by figure, the rows' figures last."""
    numbers = []
    for k in range(n):
        for sign in (k + 1, -(k + 1)):
            figures = [1 if k == other else 0 for other in reversed(range(n))]
            figures += [1 if sign in row else 0 for row in reversed(rows)]
            numbers.append(in_tens(figures))
    for j in range(len(rows)):
        numbers.append(in_tens([1] + [0] * j))
        numbers.append(in_tens([2] + [0] * j))
    return numbers, in_tens([1] * n + [4] * len(rows))


def in_tens(figures):
    return int("".join(str(figure) for figure in figures) or "0")


def told_choice(n, rows, truths):
    chosen = [2 * k if truths[k] else 2 * k + 1 for k in range(n)]
    for j, row in enumerate(rows):
        right = {sign for sign in row if truths[abs(sign) - 1] == (sign > 0)}
        both = (2 * n + 2 * j, 2 * n + 2 * j + 1)
        chosen += {1: both, 2: both[1:], 3: both[:1]}[len(right)]
    return chosen


class Numbers(unittest.TestCase):
    def check(self, n, rows, numbers, goal):
        with self.subTest(n=n, rows=rows):
            given = turn_figures(("threes", n, rows))
            self.assertEqual(("sums", numbers, goal), given)
            self.assertEqual((tuple, list, int), (type(given), type(given[1]), type(given[2])))
            self.assertTrue(all(type(number) is int for number in given[1]))

    def test_no_names_and_no_rows(self):
        self.check(0, [], [], 0)

    def test_names_without_rows(self):
        self.check(1, [], [1, 1], 1)
        self.check(3, [], [1, 1, 10, 10, 100, 100], 111)

    def test_one_row(self):
        self.check(3, [(1, 2, 3)], [11, 10, 101, 100, 1001, 1000, 1, 2], 1114)
        self.check(3, [(-3, 1, -2)], [11, 10, 100, 101, 1000, 1001, 1, 2], 1114)

    def test_a_sign_told_several_times_counts_once(self):
        self.check(1, [(1, 1, 1)], [11, 10, 1, 2], 14)
        self.check(1, [(-1, -1, -1)], [10, 11, 1, 2], 14)
        for row in [(1, 1, 2), (1, 2, 1), (2, 1, 1), (1, 2, 2), (2, 2, 1)]:
            self.check(2, [row], [11, 10, 101, 100, 1, 2], 114)

    def test_a_sign_beside_its_other(self):
        for row in [(1, -1, 2), (1, 2, -1), (-1, 2, 1)]:
            self.check(2, [row], [11, 11, 101, 100, 1, 2], 114)
        for row in [(1, 1, -1), (-1, 1, -1)]:
            self.check(1, [row], [11, 11, 1, 2], 14)

    def test_several_rows(self):
        self.check(3, [(1, 2, 3), (-1, -1, 2), (3, -3, -2), (-2, -2, -2)], [
            10001, 10010,
            100011, 101100,
            1000101, 1000100,
            1, 2, 10, 20, 100, 200, 1000, 2000,
        ], 1114444)

    def test_a_row_that_comes_twice(self):
        self.check(1, [(1, 1, 1), (1, 1, 1)], [111, 100, 1, 2, 10, 20], 144)

    def test_all_small(self):
        for names, many in [(1, 0), (1, 1), (1, 2), (1, 3), (2, 0), (2, 1), (3, 1)]:
            for _, n, rows in all_threes(names, many):
                self.check(n, rows, *told_numbers(n, rows))

    def test_many_forms(self):
        for names, many in [(2, 3), (4, 5), (12, 15)]:
            for _, n, rows in some_threes(24, 40, names, many):
                self.check(n, rows, *told_numbers(n, rows))


class Forth(unittest.TestCase):
    def check(self, n, rows, truths, choice):
        with self.subTest(n=n, rows=rows, truths=truths):
            self.assertEqual(choice, forth_figures(("threes", n, rows), truths))

    def test_names_without_rows(self):
        self.check(0, [], [], [])
        self.check(1, [], [True], [0])
        self.check(1, [], [False], [1])
        self.check(3, [], [True, False, True], [0, 3, 4])

    def test_one_two_and_three_signs_right(self):
        self.check(3, [(1, 2, 3)], [True, False, False], [0, 3, 5, 6, 7])
        self.check(3, [(1, 2, 3)], [False, False, True], [1, 3, 4, 6, 7])
        self.check(3, [(1, 2, 3)], [True, True, False], [0, 2, 5, 7])
        self.check(3, [(1, 2, 3)], [False, True, True], [1, 2, 4, 7])
        self.check(3, [(1, 2, 3)], [True, True, True], [0, 2, 4, 6])
        self.check(3, [(-1, -2, -3)], [False, True, True], [1, 2, 4, 6, 7])
        self.check(3, [(-1, -2, -3)], [False, False, True], [1, 3, 4, 7])
        self.check(3, [(-1, -2, -3)], [False, False, False], [1, 3, 5, 6])

    def test_a_sign_told_several_times(self):
        self.check(1, [(1, 1, 1)], [True], [0, 2, 3])
        self.check(1, [(-1, -1, -1)], [False], [1, 2, 3])
        for row in [(1, 1, 2), (1, 2, 1), (2, 1, 1)]:
            self.check(2, [row], [True, False], [0, 3, 4, 5])
            self.check(2, [row], [False, True], [1, 2, 4, 5])
            self.check(2, [row], [True, True], [0, 2, 5])

    def test_a_sign_beside_its_other(self):
        for row in [(1, -1, 2), (2, -1, 1), (-1, 2, 1)]:
            self.check(2, [row], [True, False], [0, 3, 4, 5])
            self.check(2, [row], [False, False], [1, 3, 4, 5])
            self.check(2, [row], [True, True], [0, 2, 5])
            self.check(2, [row], [False, True], [1, 2, 5])
        self.check(1, [(1, 1, -1)], [True], [0, 2, 3])
        self.check(1, [(1, 1, -1)], [False], [1, 2, 3])

    def test_several_rows(self):
        rows = [(1, 2, 3), (-1, -2, 3), (3, 3, 3), (-1, -1, 2)]
        self.check(3, rows, [True, True, True], [0, 2, 4, 6, 8, 9, 10, 11, 12, 13])
        self.check(3, rows, [False, True, True], [1, 2, 4, 7, 9, 10, 11, 13])
        self.check(3, rows, [False, False, True], [1, 3, 4, 6, 7, 8, 10, 11, 12, 13])


class Back(unittest.TestCase):
    def test_a_name_is_true_where_its_first_number_is_chosen(self):
        for choice, truths in [([0, 3, 5, 6, 7], [True, False, False]), ([1, 2, 4, 7], [False, True, True]),
                               ([0, 2, 4, 6], [True, True, True])]:
            self.assertEqual(truths, back_figures(("threes", 3, [(1, 2, 3)]), choice))
        self.assertEqual([], back_figures(("threes", 0, []), []))
        self.assertEqual([True, False], back_figures(("threes", 2, []), [0, 3]))
        self.assertEqual([False, True], back_figures(("threes", 2, []), [1, 2]))


class AllSmall(LeadingOn):
    def looked_over(self, question):
        choices = all_choices(2 * question[1] + 2 * len(question[2]))
        self.led_on(DEEDS, question, are_truths, come_to, all_truths(question[1]), choices)

    def test_names_without_rows(self):
        for n in range(4):
            self.looked_over(("threes", n, []))

    def test_one_name(self):
        for many in (1, 2):
            for question in all_threes(1, many):
                self.looked_over(question)

    def test_two_names_and_one_row(self):
        for question in all_threes(2, 1):
            self.looked_over(question)

    def test_three_names_and_two_rows(self):
        for question in some_threes(25, 8, 3, 2):
            self.looked_over(question)

    def test_every_answer_that_holds_is_led_back(self):
        led_back = 0
        for question in list(some_threes(26, 25, 3, 3)) + list(some_threes(27, 25, 2, 4)):
            turned = turn_figures(question)
            met = []
            for choice in all_choices(len(turned[1])):
                if come_to(*turned[1:], choice):
                    truths = back_figures(question, choice)
                    self.assertEqual([2 * k in choice for k in range(question[1])], truths)
                    self.assertTrue(are_truths(*question[1:], truths))
                    met.append(truths)
                    led_back = led_back + 1
            for truths in all_truths(question[1]):
                self.assertEqual(are_truths(*question[1:], truths), truths in met)
        self.assertGreater(led_back, 150)

    def test_forth_to_the_choice(self):
        for question in itertools.chain(some_threes(28, 200), some_threes(29, 100, 3, 2), all_threes(2, 1)):
            for truths in all_truths(question[1]):
                if are_truths(*question[1:], truths):
                    led = forth_figures(question, truths)
                    self.assertEqual(told_choice(*question[1:], truths), led)
                    self.assertIs(True, sums_hold(turn_figures(question), led))
                    self.assertEqual(truths, back_figures(question, led))

    def test_threes_without_an_answer(self):
        for question in [("threes", 1, [(1, 1, 1), (-1, -1, -1)]),
                         ("threes", 2, [(1, 2, 2), (1, -2, -2), (-1, 2, 2), (-1, -2, -2)])]:
            self.looked_over(question)
            for truths in all_truths(question[1]):
                self.refused(forth_figures, question, truths)


class Refused(LeadingOn):
    def test_forth_of_wrong_truths(self):
        self.wrong_truths_are_refused(forth_figures)

    def test_back_of_wrong_choices(self):
        question = ("threes", 3, [(1, 2, 3)])
        # The row's figure one below and one above, no number of a name, both of them, no name's at all.
        for choice in ([0, 3, 5, 6], [0, 3, 5, 7], [0, 2, 5, 6], [0, 2, 4, 7], [0, 2, 4, 6, 7], [1, 3, 5, 6, 7],
                       [0, 3, 6, 7], [0, 1, 3, 5, 6, 7], [6, 7], [0, 2, 4]):
            self.refused(back_figures, question, choice)

    def test_back_of_what_is_no_choice(self):
        question = ("threes", 3, [(1, 2, 3)])
        for answer in ([], [0, 2, 6, 4], [6, 4, 2, 0], [0, 2, 4, 4, 6], [0, 2, 4, 6, 8], [0, 2, 4, -2], [-8, 2, 4, 6],
                       [0, 2, 4, 6, 10 ** 30], [-10 ** 30, 0, 2, 4, 6], list(range(9)), list(range(8))):
            self.refused(back_figures, question, answer)
        for answer in no_choices(0):
            self.refused(back_figures, ("threes", 0, []), answer)
        for answer in no_choices(4):
            self.refused(back_figures, ("threes", 1, [(1, 1, -1)]), answer)

    def test_the_empty_list(self):
        for question in (("threes", 1, []), ("threes", 1, [(1, 1, 1)])):
            self.refused(forth_figures, question, [])
            self.refused(back_figures, question, [])


class Great(unittest.TestCase):
    def test_2000_numbers_of_1000_figures(self):
        n, m = 500, 500
        rows = [(j % n + 1, -((j * 7 + 3) % n + 1), (j * 31) % n + 1) for j in range(m)]
        question = ("threes", n, rows)
        turned = turn_figures(question)
        self.assertEqual(2000, len(turned[1]))
        self.assertEqual(("sums", *told_numbers(n, rows)), turned)
        for truths in ([True] * n, [k % 5 != 2 for k in range(n)]):
            self.assertTrue(are_truths(n, rows, truths))
            led = forth_figures(question, truths)
            self.assertEqual(told_choice(n, rows, truths), led)
            self.assertIs(True, sums_hold(turned, led))
            self.assertEqual(truths, back_figures(question, led))

    def test_one_name_in_all_rows(self):
        rows = [(1, 1, 1)] * 900
        question = ("threes", 1, rows)
        self.assertEqual(told_numbers(1, rows), turn_figures(question)[1:])
        self.assertEqual([0] + list(range(2, 1802)), forth_figures(question, [True]))
        self.assertEqual([True], back_figures(question, [0] + list(range(2, 1802))))


if __name__ == "__main__":
    unittest.main()
