"""Point 17: strangers turned to clauses, to the sign, and their answers led forth and back (with point 32)."""

import itertools
import unittest

from chainturn.clauses import clauses_hold
from chainturn.seats import back_seats, forth_seats, turn_seats
from chainturn.webs import strangers_hold
from helping import ClausesGiven, Refusing, all_choices, all_truths, all_webs, are_strangers
from helping import clauses_are_true, no_choices


def all_questions(most_people, most_names):
    """All webs of so many people, with k from below 0 on, whose clauses have no more than so many names."""
    for n in range(most_people + 1):
        for pairs in all_webs(n):
            for k in range(-2, n + 3):
                if k * n <= most_names:
                    yield ("strangers", n, pairs, k)


def rows_told(n, pairs, k):
    """The words of point 17 once more, apart from the program."""
    def sign(p, v):
        return p * n + v + 1

    rows = [tuple(sign(p, v) for v in range(n)) for p in range(k)]
    for p, q in itertools.combinations(range(k), 2):
        rows += [(-sign(p, v), -sign(q, v)) for v in range(n)]
        rows += [row for v, w in pairs for row in ((-sign(p, v), -sign(q, w)), (-sign(p, w), -sign(q, v)))]
    return rows


def sitting(n, seats):
    """The truths by which on each seat just the people told sit."""
    return [v in people for people in seats for v in range(n)]


class Rows(ClausesGiven):
    def check(self, n, pairs, k, names, rows):
        with self.subTest(n=n, pairs=pairs, k=k):
            self.assertEqual(("clauses", names, rows), turn_seats(("strangers", n, pairs, k)))

    def test_one_seat(self):
        self.check(1, [], 1, 1, [(1,)])
        self.check(3, [], 1, 3, [(1, 2, 3)])
        self.check(3, [(0, 1), (1, 2)], 1, 3, [(1, 2, 3)])

    def test_two_seats_without_pairs(self):
        self.check(1, [], 2, 2, [(1,), (2,), (-1, -2)])
        self.check(2, [], 2, 4, [(1, 2), (3, 4), (-1, -3), (-2, -4)])
        self.check(3, [], 2, 6, [(1, 2, 3), (4, 5, 6), (-1, -4), (-2, -5), (-3, -6)])

    def test_two_seats_with_pairs(self):
        self.check(2, [(0, 1)], 2, 4, [(1, 2), (3, 4), (-1, -3), (-2, -4), (-1, -4), (-2, -3)])
        self.check(3, [(0, 2), (1, 2)], 2, 6, [
            (1, 2, 3), (4, 5, 6),
            (-1, -4), (-2, -5), (-3, -6),
            (-1, -6), (-3, -4), (-2, -6), (-3, -5),
        ])

    def test_three_seats(self):
        self.check(2, [], 3, 6, [
            (1, 2), (3, 4), (5, 6), (-1, -3), (-2, -4), (-1, -5), (-2, -6), (-3, -5), (-4, -6),
        ])
        self.check(4, [(0, 3), (1, 2)], 3, 12, [
            (1, 2, 3, 4), (5, 6, 7, 8), (9, 10, 11, 12),
            (-1, -5), (-2, -6), (-3, -7), (-4, -8), (-1, -8), (-4, -5), (-2, -7), (-3, -6),
            (-1, -9), (-2, -10), (-3, -11), (-4, -12), (-1, -12), (-4, -9), (-2, -11), (-3, -10),
            (-5, -9), (-6, -10), (-7, -11), (-8, -12), (-5, -12), (-8, -9), (-6, -11), (-7, -10),
        ])

    def test_more_seats_than_people(self):
        self.check(1, [], 3, 3, [(1,), (2,), (3,), (-1, -2), (-1, -3), (-2, -3)])

    def test_k_of_0_and_below(self):
        for k in (0, -1, -5, -10 ** 30):
            self.check(0, [], k, 0, [])
            self.check(3, [], k, 0, [])
            self.check(4, [(0, 1), (2, 3)], k, 0, [])

    def test_no_people_and_k_above_0(self):
        self.check(0, [], 1, 0, [()])
        self.check(0, [], 2, 0, [(), ()])
        self.check(0, [], 4, 0, [(), (), (), ()])

    def test_all_small(self):
        for _, n, pairs, k in all_questions(4, 99):
            self.check(n, pairs, k, n * max(k, 0), rows_told(n, pairs, max(k, 0)))

    def test_the_kinds_of_what_is_given_back(self):
        for question in all_questions(3, 99):
            self.clauses_are_told(turn_seats(question))


class Forth(unittest.TestCase):
    def check(self, n, pairs, k, choice, seats):
        with self.subTest(n=n, pairs=pairs, k=k, choice=choice):
            self.assertEqual(sitting(n, seats), forth_seats(("strangers", n, pairs, k), choice))

    def test_a_choice_of_just_k(self):
        self.assertEqual([False, True, False], forth_seats(("strangers", 3, [], 1), [1]))
        self.assertEqual([True, False, False, False, False, True], forth_seats(("strangers", 3, [(0, 1)], 2), [0, 2]))
        self.check(4, [(0, 1)], 3, [1, 2, 3], [[1], [2], [3]])
        self.check(5, [], 5, [0, 1, 2, 3, 4], [[0], [1], [2], [3], [4]])

    def test_of_more_the_first_k_sit(self):
        self.check(4, [], 1, [1, 2, 3], [[1]])
        self.check(4, [], 2, [0, 1, 3], [[0], [1]])
        self.check(4, [(0, 1)], 2, [1, 2, 3], [[1], [2]])

    def test_k_of_0_and_below(self):
        for k in (0, -1, -2, -10 ** 30):
            for choice in ([], [0], [1, 2], [0, 1, 2]):
                self.check(3, [], k, choice, [])
            self.check(0, [], k, [], [])

    def test_forth_is_as_told_and_holds(self):
        for question in all_questions(4, 99):
            turned = turn_seats(question)
            for choice in all_choices(question[1]):
                if are_strangers(*question[1:], choice):
                    led = forth_seats(question, choice)
                    first = choice[:max(question[3], 0)]
                    if led != sitting(question[1], [[v] for v in first]) or type(led) is not list:
                        self.fail(f"{question}, {choice}: {led}")
                    self.assertTrue(all(type(truth) is bool for truth in led))
                    self.assertIs(True, clauses_hold(turned, led))
                    back = back_seats(question, led)
                    self.assertEqual(first, back)
                    self.assertIs(True, strangers_hold(question, back))


class Back(unittest.TestCase):
    def check(self, n, pairs, k, seats, choice):
        with self.subTest(n=n, pairs=pairs, k=k, seats=seats):
            self.assertEqual(choice, back_seats(("strangers", n, pairs, k), sitting(n, seats)))

    def test_one_on_each_seat(self):
        self.check(3, [], 1, [[2]], [2])
        self.check(4, [(0, 1)], 2, [[0], [3]], [0, 3])

    def test_rising_whatever_the_seats(self):
        self.check(4, [(0, 1)], 2, [[3], [0]], [0, 3])
        self.check(4, [], 3, [[2], [3], [0]], [0, 2, 3])
        self.check(5, [], 5, [[4], [2], [0], [3], [1]], [0, 1, 2, 3, 4])

    def test_several_on_one_seat(self):
        self.check(3, [], 1, [[0, 1, 2]], [0])
        self.check(3, [(1, 2)], 1, [[1, 2]], [1])
        self.check(5, [], 2, [[3, 4], [1, 2]], [1, 3])
        # A pair may sit on one seat together, and be strangers to all on the others.
        self.check(5, [(0, 1), (3, 4)], 2, [[3, 4], [0, 1, 2]], [0, 3])

    def test_k_of_0_and_below(self):
        for k in (0, -1, -10 ** 30):
            self.assertEqual([], back_seats(("strangers", 3, [(0, 1)], k), []))
            self.assertEqual([], back_seats(("strangers", 0, [], k), []))

    def test_every_answer_that_holds_is_led_back(self):
        led_back = 0
        for question in all_questions(4, 9):
            n = question[1]
            turned = turn_seats(question)
            some = False
            for truths in all_truths(turned[1]):
                if clauses_are_true(turned[2], truths):
                    back = back_seats(question, truths)
                    told = sorted(min(v for v in range(n) if truths[p * n + v]) for p in range(max(question[3], 0)))
                    if back != told or type(back) is not list or any(type(person) is not int for person in back):
                        self.fail(f"{question}, {truths}: {back}")
                    self.assertTrue(are_strangers(*question[1:], back))
                    some = True
                    led_back = led_back + 1
            self.assertEqual(some, any(are_strangers(*question[1:], choice) for choice in all_choices(n)))
        self.assertGreater(led_back, 1000)


class Refused(Refusing):
    def test_forth_of_choices_that_do_not_hold(self):
        for question in all_questions(4, 99):
            for choice in all_choices(question[1]):
                if not are_strangers(*question[1:], choice):
                    self.refused(forth_seats, question, choice)

    def test_forth_of_what_is_no_choice(self):
        for n in (0, 1, 3):
            for k in (-3, 0, 1):
                for answer in no_choices(n):
                    self.refused(forth_seats, ("strangers", n, [], k), answer)

    def test_forth_where_k_is_too_great(self):
        for k in (4, 10 ** 30):
            for choice in all_choices(3):
                self.refused(forth_seats, ("strangers", 3, [], k), choice)

    def test_back_of_wrong_truths(self):
        for question in all_questions(3, 6):
            turned = turn_seats(question)
            for truths in all_truths(turned[1]):
                if not clauses_are_true(turned[2], truths):
                    self.refused(back_seats, question, truths)

    def test_back_of_wrong_seats(self):
        question = ("strangers", 4, [(0, 1), (2, 3)], 2)
        self.assertEqual([1, 2], back_seats(question, sitting(4, [[2], [1]])))
        # A seat is free, one person on two seats, a pair on two seats, and one of several on a seat of a pair.
        for seats in ([[], [1]], [[2], []], [[], []], [[2], [2]], [[0], [1]], [[3], [2]], [[0, 2], [1]], [[2], [1, 3]],
                      [[0, 1], [0, 3]]):
            self.refused(back_seats, question, sitting(4, seats))

    def test_lists_of_another_length(self):
        for n, pairs, k in [(2, [], 1), (1, [], 1), (2, [(0, 1)], 1), (2, [], 2), (3, [], 0), (3, [], -1), (0, [], 0),
                            (0, [], 2)]:
            question = ("strangers", n, pairs, k)
            names = turn_seats(question)[1]
            for length in [length for length in range(names + 3) if length != names]:
                for truths in all_truths(length):
                    self.refused(back_seats, question, truths)

    def test_no_people_and_k_above_0(self):
        for k in (1, 3):
            for deed in (forth_seats, back_seats):
                self.refused(deed, ("strangers", 0, [], k), [])
                self.refused(deed, ("strangers", 0, [], k), [0])


class Great(unittest.TestCase):
    def test_2000_people(self):
        n = 2000
        pairs = [(i, i + 1) for i in range(n - 1)]
        question = ("strangers", n, pairs, 1)
        self.assertEqual(("clauses", n, [tuple(range(1, n + 1))]), turn_seats(question))
        self.assertEqual(sitting(n, [[5]]), forth_seats(question, list(range(5, n, 2))))
        self.assertEqual([1998], back_seats(question, sitting(n, [[1998, 1999]])))

    def test_many_seats(self):
        n = 20
        pairs = [(i, i + 1) for i in range(n - 1)]
        question = ("strangers", n, pairs, 10)
        turned = turn_seats(question)
        self.assertEqual((200, 10 + 45 * (20 + 2 * 19)), (turned[1], len(turned[2])))
        self.assertEqual(rows_told(n, pairs, 10), turned[2])
        even = list(range(0, n, 2))
        led = forth_seats(question, even)
        self.assertEqual(sitting(n, [[v] for v in even]), led)
        self.assertEqual(even, back_seats(question, led))
        self.assertEqual(even, back_seats(question, sitting(n, [[v] for v in reversed(even)])))


if __name__ == "__main__":
    unittest.main()
