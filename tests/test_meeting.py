"""Point 13: clauses turned to friends, pair by pair, and their answers led forth and back (with point 32)."""

import itertools
import unittest

from chainturn.clauses import clauses_hold
from chainturn.meeting import back_meeting, forth_meeting, turn_meeting
from chainturn.webs import friends_hold
from helping import Refusing, all_choices, all_truths, are_friends, clauses_are_true, no_choices, some_clauses


def signs_of(rows):
    return [(j, sign) for j, row in enumerate(rows) for sign in row]


def pairs_told(rows):
    """The words of point 13 once more, apart from the program."""
    people = signs_of(rows)
    return [(i, j) for i, j in itertools.combinations(range(len(people)), 2)
            if people[i][0] != people[j][0] and people[i][1] + people[j][1] != 0]


def small_clauses(seed, most_people):
    """Clauses with few enough signs for all choices of their people to be tried."""
    for question in some_clauses(seed, 250, most_rows=4, most_signs=4):
        if sum(len(row) for row in question[2]) <= most_people:
            yield question


class Pairs(unittest.TestCase):
    def check(self, n, rows, people, pairs):
        with self.subTest(n=n, rows=rows):
            self.assertEqual(("friends", people, pairs, len(rows)), turn_meeting(("clauses", n, rows)))

    def test_no_rows(self):
        self.check(0, [], 0, [])
        self.check(1, [], 0, [])
        self.check(5, [], 0, [])

    def test_a_row_alone_has_no_pair(self):
        self.check(1, [(1,)], 1, [])
        self.check(3, [(1, 2, -3)], 3, [])
        self.check(1, [(1, -1)], 2, [])
        self.check(1, [(1, 1, 1)], 3, [])

    def test_a_row_without_signs(self):
        self.check(0, [()], 0, [])
        self.check(0, [(), ()], 0, [])
        self.check(2, [(1, 2), ()], 2, [])
        self.check(2, [(), (1, 2)], 2, [])
        self.check(2, [(1,), (), (2,)], 2, [(0, 1)])

    def test_a_sign_and_its_other(self):
        self.check(1, [(1,), (-1,)], 2, [])
        self.check(1, [(-1,), (1,)], 2, [])
        self.check(2, [(1,), (-2,)], 2, [(0, 1)])
        self.check(2, [(-1,), (-2,)], 2, [(0, 1)])
        self.check(2, [(-1,), (2,)], 2, [(0, 1)])

    def test_a_sign_in_two_rows(self):
        self.check(1, [(1,), (1,)], 2, [(0, 1)])
        self.check(1, [(-1,), (-1,)], 2, [(0, 1)])
        self.check(2, [(1, 2), (1, 2)], 4, [(0, 2), (0, 3), (1, 2), (1, 3)])

    def test_a_sign_told_twice_in_a_row(self):
        self.check(1, [(1, 1), (1,)], 3, [(0, 2), (1, 2)])
        self.check(1, [(1, 1), (-1,)], 3, [])
        self.check(2, [(2, 2), (-2, 1, 1)], 5, [(0, 3), (0, 4), (1, 3), (1, 4)])

    def test_a_sign_beside_its_other_in_a_row(self):
        self.check(1, [(1, -1), (1,)], 3, [(0, 2)])
        self.check(1, [(1, -1), (-1, 1)], 4, [(0, 3), (1, 2)])
        self.check(2, [(1, -1), (2,)], 3, [(0, 2), (1, 2)])

    def test_several_rows(self):
        self.check(3, [(1, -2, 3), (-1, 2), (-3, 1)], 7, [
            (0, 4), (0, 5), (0, 6), (1, 3), (1, 5), (1, 6), (2, 3), (2, 4), (2, 6), (3, 5), (4, 5), (4, 6),
        ])

    def test_the_last_row_and_the_first(self):
        self.check(4, [(1,), (2, 3), (4,), (-1, 1)], 6, [
            (0, 1), (0, 2), (0, 3), (0, 5), (1, 3), (1, 4), (1, 5), (2, 3), (2, 4), (2, 5), (3, 4), (3, 5),
        ])

    def test_many_forms(self):
        for question in some_clauses(30, 400, most_rows=6, most_signs=5):
            rows = question[2]
            self.check(question[1], rows, len(signs_of(rows)), pairs_told(rows))

    def test_the_kinds_of_what_is_given_back(self):
        for question in list(some_clauses(31, 50)) + [("clauses", 2, []), ("clauses", 2, [()])]:
            turned = turn_meeting(question)
            self.assertEqual((tuple, 4), (type(turned), len(turned)))
            self.assertEqual((int, list, int), (type(turned[1]), type(turned[2]), type(turned[3])))
            self.assertEqual(sorted(set(turned[2])), turned[2])
            for pair in turned[2]:
                self.assertEqual((tuple, 2), (type(pair), len(pair)))
                self.assertTrue(all(type(person) is int for person in pair))
                self.assertTrue(0 <= pair[0] < pair[1] < turned[1])


class Forth(unittest.TestCase):
    def check(self, n, rows, truths, choice):
        with self.subTest(rows=rows, truths=truths):
            self.assertEqual(choice, forth_meeting(("clauses", n, rows), truths))

    def test_the_first_right_sign_of_each_row(self):
        rows = [(1, -2, 3), (-1, 2), (-3, 1)]
        self.check(3, rows, [True, True, True], [0, 4, 6])
        self.check(3, rows, [True, True, False], [0, 4, 5])
        self.check(3, rows, [False, False, False], [1, 3, 5])
        self.check(3, [(1, 2, 3)], [False, False, True], [2])
        self.check(3, [(1, 2, 3)], [False, True, True], [1])
        self.check(3, [(-1, -2, -3)], [True, True, False], [2])

    def test_signs_and_rows_told_twice(self):
        self.check(1, [(1, 1), (1,), (1, 1)], [True], [0, 2, 3])
        self.check(2, [(-1, -1, 2, 2)], [True, True], [2])
        self.check(1, [(1, -1), (-1, 1)], [True], [0, 3])
        self.check(1, [(1, -1), (-1, 1)], [False], [1, 2])

    def test_no_rows_and_no_names(self):
        self.check(0, [], [], [])
        self.check(3, [], [True, False, True], [])

    def test_forth_is_as_told_and_holds(self):
        led_forth = 0
        for question in some_clauses(32, 400, most_rows=5):
            turned = turn_meeting(question)
            people = signs_of(question[2])
            for truths in all_truths(question[1]):
                if clauses_are_true(question[2], truths):
                    led = forth_meeting(question, truths)
                    told = [next(p for p, (j, sign) in enumerate(people)
                                 if j == row and truths[abs(sign) - 1] == (sign > 0))
                            for row in range(len(question[2]))]
                    self.assertEqual(told, led)
                    self.assertIs(list, type(led))
                    self.assertTrue(all(type(person) is int for person in led))
                    self.assertTrue(are_friends(*turned[1:], led))
                    self.assertIs(True, friends_hold(turned, led))
                    self.assertTrue(clauses_are_true(question[2], back_meeting(question, led)))
                    led_forth = led_forth + 1
        self.assertGreater(led_forth, 500)


class Back(unittest.TestCase):
    def check(self, n, rows, choice, truths):
        with self.subTest(rows=rows, choice=choice):
            self.assertEqual(truths, back_meeting(("clauses", n, rows), choice))

    def test_the_signs_of_those_chosen(self):
        rows = [(1, -2, 3), (-1, 2), (-3, 1)]
        self.check(3, rows, [0, 4, 5], [True, True, False])
        self.check(3, rows, [1, 3, 5], [False, False, False])
        self.check(3, rows, [2, 4, 6], [True, True, True])

    def test_a_name_of_which_no_sign_is_chosen_is_not_true(self):
        self.check(3, [(1, 2)], [0], [True, False, False])
        self.check(3, [(1, 2)], [1], [False, True, False])
        self.check(2, [(-1, 2)], [0], [False, False])
        self.check(4, [], [], [False] * 4)
        self.check(0, [], [], [])

    def test_choices_that_forth_would_not_give(self):
        self.check(2, [(1, 2), (2, 1)], [1, 2], [False, True])
        self.check(2, [(1, 2), (2, 1)], [0, 2], [True, True])
        self.check(1, [(1, 1), (1,)], [1, 2], [True])

    def test_every_choice_that_holds_is_led_back(self):
        led_back = 0
        for question in small_clauses(33, 9):
            turned = turn_meeting(question)
            people = signs_of(question[2])
            some = False
            for choice in all_choices(turned[1]):
                if are_friends(*turned[1:], choice):
                    signs = [people[person][1] for person in choice]
                    back = back_meeting(question, choice)
                    self.assertEqual([k + 1 in signs for k in range(question[1])], back)
                    self.assertIs(list, type(back))
                    self.assertTrue(all(type(truth) is bool for truth in back))
                    self.assertIs(True, clauses_hold(question, back))
                    some = True
                    led_back = led_back + 1
            self.assertEqual(some, any(clauses_are_true(question[2], t) for t in all_truths(question[1])))
        self.assertGreater(led_back, 500)


class Refused(Refusing):
    def test_forth_of_wrong_truths(self):
        for question in some_clauses(34, 150):
            for truths in all_truths(question[1]):
                if not clauses_are_true(question[2], truths):
                    self.refused(forth_meeting, question, truths)

    def test_forth_of_lists_of_another_length(self):
        for n, rows in [(1, []), (2, []), (1, [(1,)]), (2, [(1, -1)]), (2, [()])]:
            for length in [length for length in range(n + 3) if length != n]:
                for truths in all_truths(length):
                    self.refused(forth_meeting, ("clauses", n, rows), truths)
        self.refused(forth_meeting, ("clauses", 0, []), [True])

    def test_where_there_is_a_row_without_signs(self):
        for rows in ([()], [(1, 2), ()], [(), (1, 2)]):
            question = ("clauses", 2, rows)
            for truths in all_truths(2):
                self.refused(forth_meeting, question, truths)
            for choice in all_choices(turn_meeting(question)[1]):
                self.refused(back_meeting, question, choice)

    def test_back_of_choices_that_do_not_hold(self):
        for question in small_clauses(35, 7):
            turned = turn_meeting(question)
            for choice in all_choices(turned[1]):
                if not are_friends(*turned[1:], choice):
                    self.refused(back_meeting, question, choice)

    def test_back_of_too_few_and_of_two_of_one_row(self):
        question = ("clauses", 3, [(1, 2), (2, 3), (-1, 3)])
        self.assertEqual([False, True, True], back_meeting(question, [1, 2, 5]))
        for choice in ([], [1], [1, 2], [1, 5], [1, 2, 3], [0, 1, 2], [0, 2, 4], [1, 2, 3, 5], [0, 1, 2, 3, 4, 5]):
            self.refused(back_meeting, question, choice)

    def test_back_of_what_is_no_choice(self):
        for rows in ([], [(1, 2)], [(1,), (2,)], [(1, 2), (1, 2)], [(1,), (-1,)]):
            question = ("clauses", 2, rows)
            for answer in no_choices(turn_meeting(question)[1]):
                self.refused(back_meeting, question, answer)


class Great(unittest.TestCase):
    def test_many_rows(self):
        # 132 people and 8580 pairs.
        rows = [(k + 1, -(k + 1)) for k in range(66)]
        question = ("clauses", 66, rows)
        turned = turn_meeting(question)
        self.assertEqual((132, 132 * 130 // 2, 66), (turned[1], len(turned[2]), turned[3]))
        self.assertEqual(pairs_told(rows), turned[2])
        truths = [k % 3 == 0 for k in range(66)]
        led = forth_meeting(question, truths)
        self.assertEqual([2 * k + (k % 3 > 0) for k in range(66)], led)
        self.assertEqual(truths, back_meeting(question, led))

    def test_a_row_of_2000_signs(self):
        row = tuple(range(1, 2001))
        question = ("clauses", 2000, [row])
        self.assertEqual(("friends", 2000, [], 1), turn_meeting(question))
        truths = [False] * 1999 + [True]
        self.assertEqual([1999], forth_meeting(question, truths))
        self.assertEqual(truths, back_meeting(question, [1999]))


if __name__ == "__main__":
    unittest.main()
