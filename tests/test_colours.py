"""Points 18 and 20: which colours hold, and colours turned to clauses, to the sign (with points 3 and 32)."""

import itertools
import unittest

from chainturn.clauses import clauses_hold
from chainturn.colours import back_saying, colours_hold, forth_saying, turn_saying
from helping import ClausesGiven, Refusing, all_colours, all_truths, all_webs_up_to, are_colours, clauses_are_true


class Holding(unittest.TestCase):
    def holds(self, n, pairs, answers):
        for answer in answers:
            with self.subTest(n=n, pairs=pairs, answer=answer):
                self.assertIs(True, colours_hold(("colours", n, pairs), answer))

    def fails(self, n, pairs, answers):
        for answer in answers:
            with self.subTest(n=n, pairs=pairs, answer=answer):
                self.assertIs(False, colours_hold(("colours", n, pairs), answer))

    def test_unlike_and_like_numbers_on_a_pair(self):
        self.holds(2, [(0, 1)], [[0, 1], [0, 2], [1, 0], [1, 2], [2, 0], [2, 1]])
        self.fails(2, [(0, 1)], [[0, 0], [1, 1], [2, 2]])
        self.holds(3, [(0, 1), (0, 2), (1, 2)], [[0, 1, 2], [2, 1, 0], [1, 2, 0]])
        self.fails(3, [(0, 1), (0, 2), (1, 2)], [[0, 1, 0], [0, 1, 1], [0, 0, 1], [2, 2, 2]])

    def test_things_without_a_pair_may_be_alike(self):
        self.holds(4, [(0, 1), (2, 3)], [[0, 1, 0, 1], [0, 1, 1, 0], [2, 0, 0, 2]])
        self.holds(4, [(1, 3)], [[0, 0, 0, 1], [2, 1, 1, 2]])
        self.fails(4, [(1, 3)], [[0, 1, 2, 1]])

    def test_no_pairs(self):
        self.holds(1, [], [[0], [1], [2]])
        self.holds(3, [], all_colours(3))

    def test_no_things(self):
        self.holds(0, [], [[]])
        self.fails(0, [], [[0], [1], [0, 1], [-1]])

    def test_numbers_below_0(self):
        self.fails(1, [], [[-1], [-2], [-3], [-10 ** 30]])
        self.fails(2, [(0, 1)], [[-1, 0], [0, -1], [-1, -2], [1, -2]])
        self.fails(3, [(0, 1)], [[0, 1, -1], [0, 1, -3]])

    def test_numbers_above_2(self):
        self.fails(1, [], [[3], [4], [10 ** 30]])
        self.fails(2, [(0, 1)], [[3, 0], [0, 3], [3, 4], [2, 3]])
        self.fails(3, [(0, 1)], [[0, 1, 3], [0, 1, 10 ** 30]])

    def test_too_short_and_too_long(self):
        self.fails(1, [], [[], [0, 1], [0, 0], [2, 1, 0]])
        self.fails(3, [(0, 1)], [[], [0], [0, 1], [0, 1, 2, 0], [0, 1, 0, 0, 0]])
        self.fails(3, [(0, 2), (1, 2)], [[], [0], [0, 1], [0, 0, 1, 1], [0, 0, 1] * 2])

    def test_all_small(self):
        for n, pairs in all_webs_up_to(4):
            for answer in all_colours(n):
                if colours_hold(("colours", n, pairs), answer) is not are_colours(n, pairs, answer):
                    self.fail(f"{n}, {pairs}: {answer}")

    def test_all_short_lists(self):
        for n, pairs in all_webs_up_to(3):
            for length in range(5):
                for answer in itertools.product(range(-1, 4), repeat=length):
                    told = are_colours(n, pairs, answer)
                    if colours_hold(("colours", n, pairs), list(answer)) is not told:
                        self.fail(f"{told} expected: {n}, {pairs}: {answer}")


class Rows(ClausesGiven):
    def check(self, n, pairs, names, rows):
        with self.subTest(n=n, pairs=pairs):
            self.assertEqual(("clauses", names, rows), turn_saying(("colours", n, pairs)))

    def test_no_things(self):
        self.check(0, [], 0, [])

    def test_no_pairs(self):
        self.check(1, [], 3, [(1, 2, 3)])
        self.check(3, [], 9, [(1, 2, 3), (4, 5, 6), (7, 8, 9)])

    def test_one_pair(self):
        self.check(2, [(0, 1)], 6, [(1, 2, 3), (4, 5, 6), (-1, -4), (-2, -5), (-3, -6)])
        self.check(3, [(0, 2)], 9, [(1, 2, 3), (4, 5, 6), (7, 8, 9), (-1, -7), (-2, -8), (-3, -9)])

    def test_several_pairs(self):
        self.check(4, [(0, 1), (0, 3), (1, 2)], 12, [
            (1, 2, 3), (4, 5, 6), (7, 8, 9), (10, 11, 12),
            (-1, -4), (-2, -5), (-3, -6),
            (-1, -10), (-2, -11), (-3, -12),
            (-4, -7), (-5, -8), (-6, -9),
        ])

    def test_all_small(self):
        for n, pairs in all_webs_up_to(4):
            rows = [tuple(3 * v + c + 1 for c in range(3)) for v in range(n)]
            rows += [(-(3 * v + c + 1), -(3 * w + c + 1)) for v, w in pairs for c in range(3)]
            self.check(n, pairs, 3 * n, rows)

    def test_the_kinds_of_what_is_given_back(self):
        for n, pairs in all_webs_up_to(3):
            self.clauses_are_told(turn_saying(("colours", n, pairs)))


class Answers(unittest.TestCase):
    def test_forth_the_name_of_each_number(self):
        for number, truths in [(0, [True, False, False]), (1, [False, True, False]), (2, [False, False, True])]:
            self.assertEqual(truths, forth_saying(("colours", 1, []), [number]))
        self.assertEqual([False, False, True, True, False, False, False, False, True],
                         forth_saying(("colours", 3, [(0, 1), (1, 2)]), [2, 0, 2]))
        self.assertEqual([], forth_saying(("colours", 0, []), []))

    def test_forth_and_then_back_is_the_answer_itself(self):
        for n, pairs in all_webs_up_to(4):
            question = ("colours", n, pairs)
            turned = turn_saying(question)
            for answer in all_colours(n):
                if are_colours(n, pairs, answer):
                    led = forth_saying(question, answer)
                    self.assertEqual([answer[v] == c for v in range(n) for c in range(3)], led)
                    self.assertIs(list, type(led))
                    self.assertTrue(all(type(truth) is bool for truth in led))
                    self.assertIs(True, clauses_hold(turned, led))
                    self.assertEqual(answer, back_saying(question, led))

    def test_back_the_first_name_that_is_true(self):
        for truths, number in [([True, False, False], 0), ([False, True, False], 1), ([False, False, True], 2),
                               ([True, True, False], 0), ([True, False, True], 0), ([False, True, True], 1),
                               ([True, True, True], 0)]:
            self.assertEqual([number], back_saying(("colours", 1, []), truths))
        self.assertEqual([1, 0], back_saying(("colours", 2, [(0, 1)]), [False, True, True, True, False, False]))
        self.assertEqual([2, 0], back_saying(("colours", 2, [(0, 1)]), [False, False, True, True, True, False]))
        self.assertEqual([0, 0], back_saying(("colours", 2, []), [True] * 6))
        self.assertEqual([], back_saying(("colours", 0, []), []))

    def test_every_answer_that_holds_is_led_back(self):
        led_back = 0
        for n, pairs in all_webs_up_to(3):
            question = ("colours", n, pairs)
            turned = turn_saying(question)
            met = []
            for truths in all_truths(turned[1]):
                if clauses_are_true(turned[2], truths):
                    back = back_saying(question, truths)
                    self.assertEqual([min(c for c in range(3) if truths[3 * v + c]) for v in range(n)], back)
                    self.assertIs(list, type(back))
                    self.assertTrue(all(type(number) is int for number in back))
                    self.assertTrue(are_colours(n, pairs, back))
                    met.append(back)
                    led_back = led_back + 1
            for answer in all_colours(n):
                self.assertEqual(are_colours(n, pairs, answer), answer in met)
        self.assertGreater(led_back, 500)

    def test_four_that_are_all_pairs_have_no_answer(self):
        turned = turn_saying(("colours", 4, list(itertools.combinations(range(4), 2))))
        for truths in all_truths(12):
            if clauses_hold(turned, truths):
                self.fail(f"{truths}")


class Refused(Refusing):
    def test_forth_of_numbers_that_do_not_hold(self):
        for n, pairs in all_webs_up_to(3):
            for length in range(5):
                for answer in itertools.product(range(-1, 4) if length < 4 else range(3), repeat=length):
                    if not are_colours(n, pairs, answer):
                        self.refused(forth_saying, ("colours", n, pairs), list(answer))

    def test_forth_of_great_and_low_numbers(self):
        for answer in ([10 ** 30, 0], [0, -10 ** 30], [0, 3], [-1, 0], [-3, -2]):
            self.refused(forth_saying, ("colours", 2, []), answer)
            self.refused(forth_saying, ("colours", 2, [(0, 1)]), answer)

    def test_back_of_wrong_truths(self):
        for n, pairs in all_webs_up_to(2):
            turned = turn_saying(("colours", n, pairs))
            for truths in all_truths(turned[1]):
                if not clauses_are_true(turned[2], truths):
                    self.refused(back_saying, ("colours", n, pairs), truths)

    def test_back_of_a_thing_without_a_number_and_of_like_ones(self):
        question = ("colours", 2, [(0, 1)])
        self.refused(back_saying, question, [False, False, False, True, False, False])
        self.refused(back_saying, question, [True, False, False, False, False, False])
        self.refused(back_saying, question, [False, True, False, False, True, False])
        # The first numbers are unlike, but another one is said of both.
        self.refused(back_saying, question, [True, False, True, False, True, True])

    def test_back_of_lists_of_another_length(self):
        for n, pairs in all_webs_up_to(2):
            for length in [length for length in range(3 * n + 3) if length != 3 * n]:
                for truths in all_truths(length):
                    self.refused(back_saying, ("colours", n, pairs), truths)

    def test_the_empty_list(self):
        for deed in (forth_saying, back_saying):
            self.refused(deed, ("colours", 1, []), [])
            self.refused(deed, ("colours", 3, [(0, 1)]), [])


class Great(unittest.TestCase):
    def test_2000_things_and_9000_pairs(self):
        n = 2000
        pairs = sorted((v, v + step) for step in (1, 2, 4, 5, 7) for v in range(n - step))[:9000]
        self.assertEqual(9000, len(pairs))
        question = ("colours", n, pairs)
        answer = [v % 3 for v in range(n)]
        self.assertIs(True, colours_hold(question, answer))
        self.assertIs(False, colours_hold(question, answer[:-1] + [3]))
        self.assertIs(False, colours_hold(question, answer[1:2] + answer[1:]))

    def test_600_things_said(self):
        n = 600
        question = ("colours", n, [(v, v + 1) for v in range(n - 1)])
        turned = turn_saying(question)
        self.assertEqual((1800, n + 3 * (n - 1)), (turned[1], len(turned[2])))
        self.assertEqual((-1797, -1800), turned[2][-1])
        answer = [v * v % 2 for v in range(n)]
        led = forth_saying(question, answer)
        self.assertEqual(answer, back_saying(question, led))


if __name__ == "__main__":
    unittest.main()
