"""Point 19: threes turned to colours, to the pair, and their answers led forth and back (with points 1 and 32)."""

import itertools
import unittest

from chainturn.colours import colours_hold
from chainturn.painting import back_painting, forth_painting, turn_painting
from helping import LeadingOn, all_colours, all_threes, all_truths, are_colours, are_truths, some_threes

DEEDS = (turn_painting, forth_painting, back_painting)

# Each two of yes, no and the ground.
GROUND = [(0, 1), (0, 2), (1, 2)]


def told_pairs(n, rows):
    """The pairs by the words of the document, apart from the program."""
    names = {}
    for k in range(n):
        names[k + 1] = 3 + 2 * k
        names[-(k + 1)] = 4 + 2 * k
    found = [{0, 1}, {0, 2}, {1, 2}]
    for k in range(1, n + 1):
        found += [{names[k], names[-k]}, {names[k], 2}, {names[-k], 2}]
    for j, (a, b, c) in enumerate(rows):
        P, Q, R, S, T, U = range(3 + 2 * n + 6 * j, 3 + 2 * n + 6 * j + 6)
        found += [{P, Q}, {P, R}, {Q, R}, {S, T}, {S, U}, {T, U}]
        found += [{P, names[a]}, {Q, names[b]}, {S, R}, {T, names[c]}, {U, 1}, {U, 2}]
    return sorted(tuple(sorted(two)) for two in found)


def all_held(n, pairs):
    """All colours that hold, thing by thing, so that not all lists have to be tried."""
    below = [[i for i, j in pairs if j == thing] for thing in range(n)]
    lists = [[]]
    for thing in range(n):
        lists = [held + [c] for held in lists for c in range(3) if all(held[i] != c for i in below[thing])]
    return lists


class Pairs(unittest.TestCase):
    def check(self, n, rows, things, pairs):
        with self.subTest(n=n, rows=rows):
            self.assertEqual(("colours", things, pairs), turn_painting(("threes", n, rows)))

    def test_no_names_and_no_rows(self):
        self.check(0, [], 3, GROUND)

    def test_names_without_rows(self):
        self.check(1, [], 5, GROUND + [(2, 3), (2, 4), (3, 4)])
        self.check(2, [], 7, GROUND + [(2, 3), (2, 4), (2, 5), (2, 6), (3, 4), (5, 6)])

    def test_three_names(self):
        # P, Q, R, S, T, U are 9 to 14.
        self.check(3, [(1, 2, 3)], 15, [
            (0, 1), (0, 2), (1, 2), (1, 14),
            (2, 3), (2, 4), (2, 5), (2, 6), (2, 7), (2, 8), (2, 14),
            (3, 4), (3, 9), (5, 6), (5, 10), (7, 8), (7, 13),
            (9, 10), (9, 11), (10, 11), (11, 12), (12, 13), (12, 14), (13, 14),
        ])
        self.check(3, [(-3, 1, -2)], 15, [
            (0, 1), (0, 2), (1, 2), (1, 14),
            (2, 3), (2, 4), (2, 5), (2, 6), (2, 7), (2, 8), (2, 14),
            (3, 4), (3, 10), (5, 6), (6, 13), (7, 8), (8, 9),
            (9, 10), (9, 11), (10, 11), (11, 12), (12, 13), (12, 14), (13, 14),
        ])

    def test_a_sign_told_three_times(self):
        # P, Q, R, S, T, U are 5 to 10.
        own = [(5, 6), (5, 7), (6, 7), (7, 8), (8, 9), (8, 10), (9, 10)]
        head = [(0, 1), (0, 2), (1, 2), (1, 10), (2, 3), (2, 4), (2, 10), (3, 4)]
        self.check(1, [(1, 1, 1)], 11, head + [(3, 5), (3, 6), (3, 9)] + own)
        self.check(1, [(-1, -1, -1)], 11, head + [(4, 5), (4, 6), (4, 9)] + own)

    def test_a_sign_told_twice_and_a_sign_beside_its_other(self):
        own = [(5, 6), (5, 7), (6, 7), (7, 8), (8, 9), (8, 10), (9, 10)]
        head = [(0, 1), (0, 2), (1, 2), (1, 10), (2, 3), (2, 4), (2, 10), (3, 4)]
        self.check(1, [(1, 1, -1)], 11, head + [(3, 5), (3, 6), (4, 9)] + own)
        self.check(1, [(1, -1, 1)], 11, head + [(3, 5), (3, 9), (4, 6)] + own)
        self.check(1, [(-1, 1, 1)], 11, head + [(3, 6), (3, 9), (4, 5)] + own)
        # P, Q, R, S, T, U are 7 to 12.
        self.check(2, [(2, 2, -1)], 13, [
            (0, 1), (0, 2), (1, 2), (1, 12), (2, 3), (2, 4), (2, 5), (2, 6), (2, 12), (3, 4), (4, 11),
            (5, 6), (5, 7), (5, 8), (7, 8), (7, 9), (8, 9), (9, 10), (10, 11), (10, 12), (11, 12),
        ])

    def test_several_rows(self):
        # P, Q, R, S, T, U are 7 to 12 and 13 to 18.
        self.check(2, [(1, 2, 2), (-2, 1, -1)], 19, [
            (0, 1), (0, 2), (1, 2), (1, 12), (1, 18),
            (2, 3), (2, 4), (2, 5), (2, 6), (2, 12), (2, 18),
            (3, 4), (3, 7), (3, 14), (4, 17), (5, 6), (5, 8), (5, 11), (6, 13),
            (7, 8), (7, 9), (8, 9), (9, 10), (10, 11), (10, 12), (11, 12),
            (13, 14), (13, 15), (14, 15), (15, 16), (16, 17), (16, 18), (17, 18),
        ])

    def test_a_row_that_comes_twice_has_its_things_twice(self):
        once = turn_painting(("threes", 1, [(1, -1, 1)]))
        twice = turn_painting(("threes", 1, [(1, -1, 1)] * 2))
        self.assertEqual((11, 17), (once[1], twice[1]))
        moved = [(i if i < 5 else i + 6, j + 6) for i, j in once[2] if j > 4]
        self.assertEqual(sorted(once[2] + moved), twice[2])

    def test_all_small(self):
        for names, many in [(1, 0), (1, 1), (1, 2), (2, 0), (2, 1), (3, 1)]:
            for _, n, rows in all_threes(names, many):
                self.check(n, rows, 3 + 2 * n + 6 * len(rows), told_pairs(n, rows))

    def test_many_forms(self):
        for names, many in [(2, 3), (4, 5), (9, 12)]:
            for _, n, rows in some_threes(19, 40, names, many):
                self.check(n, rows, 3 + 2 * n + 6 * len(rows), told_pairs(n, rows))

    def test_sorted_each_once_the_lesser_first(self):
        for question in [("threes", 0, []), ("threes", 3, [])] + list(some_threes(20, 40)):
            turned = turn_painting(question)
            self.assertEqual((tuple, 3), (type(turned), len(turned)))
            self.assertEqual((int, list), (type(turned[1]), type(turned[2])))
            self.assertEqual(turned[2], sorted(set(turned[2])))
            self.assertEqual(3 + 3 * question[1] + 12 * len(question[2]), len(turned[2]))
            for two in turned[2]:
                self.assertEqual((tuple, int, int), (type(two), type(two[0]), type(two[1])))
                self.assertTrue(0 <= two[0] < two[1] < turned[1])


class Forth(unittest.TestCase):
    def check(self, n, rows, truths, numbers):
        with self.subTest(n=n, rows=rows, truths=truths):
            self.assertEqual(numbers, forth_painting(("threes", n, rows), truths))

    def test_no_names_and_names_without_rows(self):
        self.check(0, [], [], [0, 1, 2])
        self.check(1, [], [True], [0, 1, 2, 0, 1])
        self.check(1, [], [False], [0, 1, 2, 1, 0])
        self.check(3, [], [True, False, True], [0, 1, 2, 0, 1, 1, 0, 0, 1])

    def test_the_first_sign_is_right(self):
        # Whether the second and the third one are right, too, changes nothing.
        for second, third in itertools.product([True, False], repeat=2):
            names = [0, 1] + ([0, 1] if second else [1, 0]) + ([0, 1] if third else [1, 0])
            self.check(3, [(1, 2, 3)], [True, second, third], [0, 1, 2] + names + [1, 2, 0, 1, 2, 0])

    def test_only_the_second_of_the_first_two_is_right(self):
        self.check(3, [(1, 2, 3)], [False, True, False], [0, 1, 2, 1, 0, 0, 1, 1, 0] + [2, 1, 0, 1, 2, 0])
        self.check(3, [(1, 2, 3)], [False, True, True], [0, 1, 2, 1, 0, 0, 1, 0, 1] + [2, 1, 0, 1, 2, 0])

    def test_only_the_third_is_right(self):
        self.check(3, [(1, 2, 3)], [False, False, True], [0, 1, 2, 1, 0, 1, 0, 0, 1] + [0, 2, 1, 2, 1, 0])

    def test_signs_that_say_not(self):
        self.check(3, [(-1, -2, -3)], [False, True, True], [0, 1, 2, 1, 0, 0, 1, 0, 1] + [1, 2, 0, 1, 2, 0])
        self.check(3, [(-1, -2, -3)], [True, False, True], [0, 1, 2, 0, 1, 1, 0, 0, 1] + [2, 1, 0, 1, 2, 0])
        self.check(3, [(-1, -2, -3)], [True, True, False], [0, 1, 2, 0, 1, 0, 1, 1, 0] + [0, 2, 1, 2, 1, 0])

    def test_one_name(self):
        self.check(1, [(1, 1, 1)], [True], [0, 1, 2, 0, 1] + [1, 2, 0, 1, 2, 0])
        self.check(1, [(-1, -1, -1)], [False], [0, 1, 2, 1, 0] + [1, 2, 0, 1, 2, 0])
        self.check(1, [(-1, 1, -1)], [True], [0, 1, 2, 0, 1] + [2, 1, 0, 1, 2, 0])
        self.check(1, [(-1, -1, 1)], [True], [0, 1, 2, 0, 1] + [0, 2, 1, 2, 1, 0])
        self.check(1, [(1, 1, -1)], [False], [0, 1, 2, 1, 0] + [0, 2, 1, 2, 1, 0])

    def test_several_rows(self):
        self.check(2, [(1, 2, 2), (-1, 2, 1), (2, 2, 1), (-2, 1, 2)], [True, False],
                   [0, 1, 2, 0, 1, 1, 0] + [1, 2, 0, 1, 2, 0] + [0, 2, 1, 2, 1, 0] * 2 + [1, 2, 0, 1, 2, 0])
        self.check(2, [(1, 2, 2), (-1, 2, 1), (2, 2, 1), (1, 2, -2)], [False, True],
                   [0, 1, 2, 1, 0, 0, 1] + [2, 1, 0, 1, 2, 0] + [1, 2, 0, 1, 2, 0] * 2 + [2, 1, 0, 1, 2, 0])


class Back(unittest.TestCase):
    def check(self, n, rows, numbers, truths):
        with self.subTest(n=n, rows=rows, numbers=numbers):
            self.assertEqual(truths, back_painting(("threes", n, rows), numbers))

    def test_all_numbers_renamed(self):
        for yes, no, ground in itertools.permutations(range(3)):
            self.check(0, [], [yes, no, ground], [])
            self.check(1, [], [yes, no, ground, yes, no], [True])
            self.check(1, [], [yes, no, ground, no, yes], [False])
            self.check(2, [], [yes, no, ground, no, yes, yes, no], [False, True])

    def test_led_forth_and_renamed(self):
        for names in itertools.permutations(range(3)):
            for question in some_threes(21, 30):
                for truths in all_truths(question[1]):
                    if are_truths(*question[1:], truths):
                        led = [names[number] for number in forth_painting(question, truths)]
                        self.assertIs(True, colours_hold(turn_painting(question), led))
                        self.assertEqual(truths, back_painting(question, led))

    def test_other_colours_of_a_row(self):
        # P and Q may have other numbers than forth tells: here P, Q, R have 2, 1, 0 where the first sign is right.
        self.check(2, [(1, 2, 1)], [0, 1, 2, 0, 1, 0, 1, 2, 1, 0, 1, 2, 0], [True, True])
        self.check(2, [(1, 2, 1)], [0, 1, 2, 0, 1, 0, 1, 1, 2, 0, 1, 2, 0], [True, True])
        self.check(2, [(1, 2, 1)], [0, 1, 2, 0, 1, 0, 1, 1, 2, 0, 2, 1, 0], [True, True])


class AllSmall(LeadingOn):
    def test_one_name_and_two_rows(self):
        for many in range(3):
            for question in all_threes(1, many):
                turned = turn_painting(question)
                self.led_on(DEEDS, question, are_truths, are_colours, all_truths(1), all_held(*turned[1:]))

    def test_every_answer_that_holds(self):
        led_back = 0
        for question in all_threes(2, 1) + list(some_threes(22, 40, 3, 2)) + list(some_threes(23, 20, 2, 3)):
            turned = turn_painting(question)
            held = all_held(*turned[1:])
            self.led_on(DEEDS, question, are_truths, are_colours, all_truths(question[1]), held)
            for answer in held:
                told = [answer[3 + 2 * k] == answer[0] for k in range(question[1])]
                self.assertEqual(told, back_painting(question, answer))
                led_back = led_back + 1
        self.assertGreater(led_back, 5000)

    def test_threes_without_an_answer(self):
        for question in [("threes", 1, [(1, 1, 1), (-1, -1, -1)]),
                         ("threes", 2, [(1, 2, 2), (1, -2, -2), (-1, 2, 2), (-1, -2, -2)])]:
            self.assertEqual([], all_held(*turn_painting(question)[1:]))
            for truths in all_truths(question[1]):
                self.refused(forth_painting, question, truths)

    def test_wrong_colours(self):
        for n in (0, 1):
            self.led_on(DEEDS, ("threes", n, []), are_truths, are_colours, all_truths(n), all_colours(3 + 2 * n))


class Refused(LeadingOn):
    def test_forth_of_wrong_truths(self):
        self.wrong_truths_are_refused(forth_painting)

    def test_back_of_one_number_changed(self):
        for question in some_threes(24, 20):
            for truths in all_truths(question[1]):
                if are_truths(*question[1:], truths):
                    led = forth_painting(question, truths)
                    for place in range(len(led)):
                        for other in (-1, 0, 1, 2, 3):
                            answer = led[:place] + [other] + led[place + 1:]
                            if not are_colours(*turn_painting(question)[1:], answer):
                                self.refused(back_painting, question, answer)

    def test_back_of_lists_of_another_length(self):
        question = ("threes", 1, [(1, 1, -1)])
        led = forth_painting(question, [True])
        for length in range(len(led)):
            self.refused(back_painting, question, led[:length])
        for more in ([0], [1], [2], [0, 1, 2], led):
            self.refused(back_painting, question, led + more)
        for answer in ([], [0], [0, 1], [0, 1, 2, 0]):
            self.refused(back_painting, ("threes", 0, []), answer)

    def test_back_of_low_and_great_numbers(self):
        for answer in ([0, 1, 3], [-1, 0, 1], [0, 1, -1], [3, 4, 5], [10 ** 30, 1, 2], [0, -10 ** 30, 2], [0, 0, 0]):
            self.refused(back_painting, ("threes", 0, []), answer)

    def test_the_empty_list(self):
        for question in (("threes", 1, []), ("threes", 1, [(1, 1, 1)])):
            self.refused(forth_painting, question, [])
            self.refused(back_painting, question, [])


class Great(unittest.TestCase):
    def test_2000_things(self):
        n, m = 100, 299
        rows = [(j % n + 1, -((j * 7 + 3) % n + 1), (j * 31) % n + 1) for j in range(m)]
        question = ("threes", n, rows)
        turned = turn_painting(question)
        self.assertEqual((1997, 3891), (turned[1], len(turned[2])))
        self.assertEqual(told_pairs(n, rows), turned[2])
        truths = [True] * n
        led = forth_painting(question, truths)
        self.assertIs(True, colours_hold(turned, led))
        self.assertEqual(truths, back_painting(question, led))

    def test_2000_names(self):
        truths = [k % 3 == 2 for k in range(2000)]
        question = ("threes", 2000, [(1998, -1999, 2000)] * 300)
        led = forth_painting(question, truths)
        self.assertEqual([1, 2, 0, 1, 2, 0], led[-6:])
        self.assertEqual(truths, back_painting(question, led))


if __name__ == "__main__":
    unittest.main()
