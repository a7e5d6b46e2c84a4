"""Point 12: friends, strangers, covers and sets, and which choices hold (with point 3)."""

import itertools
import unittest

from chainturn.webs import cover_holds, friends_hold, others, sets_hold, strangers_hold
from helping import Holding, all_choices, all_webs, are_friends, are_sets, are_strangers, is_cover

WEBS = [("friends", friends_hold, are_friends), ("strangers", strangers_hold, are_strangers),
        ("cover", cover_holds, is_cover)]


class Friends(Holding):
    PAIRS = [(0, 1), (0, 2), (0, 3), (1, 2), (3, 4)]

    def test_each_two_are_a_pair(self):
        question = ("friends", 5, self.PAIRS, 2)
        self.holds(friends_hold, question, [[0, 1], [1, 2], [3, 4], [0, 1, 2]])
        self.fails(friends_hold, question, [[1, 3], [0, 4], [0, 1, 3], [1, 2, 3], [0, 1, 2, 3], [0, 1, 2, 3, 4]])

    def test_too_few_just_k_and_more(self):
        question = ("friends", 5, self.PAIRS, 3)
        self.fails(friends_hold, question, [[], [0], [0, 1], [3, 4]])
        self.holds(friends_hold, question, [[0, 1, 2]])
        self.holds(friends_hold, ("friends", 5, self.PAIRS, 1), [[0], [4], [0, 1], [0, 1, 2]])
        self.fails(friends_hold, ("friends", 5, self.PAIRS, 1), [[]])

    def test_k_of_0_below_0_and_too_great(self):
        for k in (0, -1, -10 ** 30):
            self.holds(friends_hold, ("friends", 5, self.PAIRS, k), [[], [2], [0, 1, 2]])
            self.fails(friends_hold, ("friends", 5, self.PAIRS, k), [[1, 4], [1, 1], [5], [-1]])
        for k in (4, 6, 10 ** 30):
            self.fails(friends_hold, ("friends", 5, self.PAIRS, k), [[], [0, 1, 2], [0, 1, 2, 3, 4]])

    def test_no_people_and_no_pairs(self):
        self.holds(friends_hold, ("friends", 0, [], 0), [[]])
        self.holds(friends_hold, ("friends", 0, [], -1), [[]])
        self.fails(friends_hold, ("friends", 0, [], 1), [[], [0]])
        self.fails(friends_hold, ("friends", 0, [], 0), [[0], [-1]])
        self.holds(friends_hold, ("friends", 3, [], 1), [[0], [1], [2]])
        self.fails(friends_hold, ("friends", 3, [], 1), [[], [0, 1], [0, 1, 2]])


class Strangers(Holding):
    PAIRS = [(0, 1), (0, 2), (0, 3), (1, 2), (3, 4)]

    def test_no_two_are_a_pair(self):
        question = ("strangers", 5, self.PAIRS, 2)
        self.holds(strangers_hold, question, [[0, 4], [1, 3], [2, 4]])
        self.fails(strangers_hold, question, [[0, 1], [3, 4], [1, 2, 4], [1, 3, 4], [0, 1, 2, 3, 4]])

    def test_too_few_just_k_and_more(self):
        question = ("strangers", 5, [(0, 1), (3, 4)], 3)
        self.fails(strangers_hold, question, [[], [0], [0, 2], [2, 4], [0, 1, 2]])
        self.holds(strangers_hold, question, [[0, 2, 3], [1, 2, 4]])
        self.holds(strangers_hold, ("strangers", 5, [(0, 1)], 2), [[0, 2, 3, 4], [1, 2]])

    def test_k_of_0_below_0_and_too_great(self):
        for k in (0, -1, -10 ** 30):
            self.holds(strangers_hold, ("strangers", 5, self.PAIRS, k), [[], [2], [1, 3]])
            self.fails(strangers_hold, ("strangers", 5, self.PAIRS, k), [[0, 1], [1, 1], [5], [-1]])
        for k in (3, 6, 10 ** 30):
            self.fails(strangers_hold, ("strangers", 5, self.PAIRS, k), [[], [1, 3], [0, 1, 2, 3, 4]])

    def test_no_people_and_no_pairs(self):
        self.holds(strangers_hold, ("strangers", 0, [], 0), [[]])
        self.holds(strangers_hold, ("strangers", 0, [], -1), [[]])
        self.fails(strangers_hold, ("strangers", 0, [], 1), [[], [0]])
        self.fails(strangers_hold, ("strangers", 0, [], 0), [[0], [-1]])
        self.holds(strangers_hold, ("strangers", 3, [], 3), [[0, 1, 2]])
        self.fails(strangers_hold, ("strangers", 3, [], 3), [[], [0, 1], [1, 2]])


class Covers(Holding):
    PAIRS = [(0, 1), (0, 2), (0, 3), (1, 2), (3, 4)]

    def test_each_pair_has_one_of_them(self):
        question = ("cover", 5, self.PAIRS, 5)
        self.holds(cover_holds, question, [[0, 1, 3], [0, 2, 4], [1, 2, 3], [0, 1, 2, 3, 4]])
        self.fails(cover_holds, question, [[], [0], [0, 1], [0, 3], [1, 3], [1, 2, 4], [0, 3, 4]])

    def test_too_many_just_k_and_fewer(self):
        question = ("cover", 5, self.PAIRS, 3)
        self.holds(cover_holds, question, [[0, 1, 3], [0, 2, 4]])
        self.fails(cover_holds, question, [[0, 1, 2, 3], [0, 1, 3, 4], [0, 1, 2, 3, 4]])
        self.holds(cover_holds, ("cover", 5, self.PAIRS, 4), [[0, 1, 3], [0, 1, 3, 4]])

    def test_k_of_0_below_0_and_too_great(self):
        self.holds(cover_holds, ("cover", 3, [], 0), [[]])
        self.fails(cover_holds, ("cover", 3, [], 0), [[0], [0, 1, 2]])
        self.fails(cover_holds, ("cover", 3, [(0, 1)], 0), [[], [0]])
        for k in (-1, -10 ** 30):
            self.fails(cover_holds, ("cover", 3, [], k), [[], [0]])
            self.fails(cover_holds, ("cover", 0, [], k), [[]])
        for k in (6, 10 ** 30):
            self.holds(cover_holds, ("cover", 5, self.PAIRS, k), [[0, 1, 3], [0, 1, 2, 3, 4]])
            self.fails(cover_holds, ("cover", 5, self.PAIRS, k), [[], [0, 1], [0, 1, 3, 5], [-1, 0, 1, 3]])

    def test_no_people_and_no_pairs(self):
        self.holds(cover_holds, ("cover", 0, [], 0), [[]])
        self.holds(cover_holds, ("cover", 0, [], 3), [[]])
        self.fails(cover_holds, ("cover", 0, [], 3), [[0], [-1]])
        self.holds(cover_holds, ("cover", 3, [], 2), [[], [0], [1, 2]])
        self.fails(cover_holds, ("cover", 3, [], 2), [[0, 1, 2], [3]])


class Sets(Holding):
    GROUPS = [(0, 1), (2,), (1, 2, 3), (), (0, 3), (0, 1)]

    def test_each_thing_is_in_one_of_them(self):
        question = ("sets", 4, self.GROUPS, 6)
        self.holds(sets_hold, question, [[0, 2], [2, 4], [0, 1, 4], [2, 3, 5], [0, 1, 2, 3, 4, 5]])
        self.fails(sets_hold, question, [[], [0], [2], [0, 1], [0, 4], [0, 5], [1, 2], [1, 3, 4], [0, 1, 3, 5]])

    def test_too_many_just_k_and_fewer(self):
        question = ("sets", 4, self.GROUPS, 2)
        self.holds(sets_hold, question, [[0, 2], [2, 5], [2, 4]])
        self.fails(sets_hold, question, [[0, 2, 3], [0, 1, 4], [0, 1, 2, 3, 4, 5]])
        self.holds(sets_hold, ("sets", 4, self.GROUPS, 3), [[0, 2], [0, 2, 3]])

    def test_k_of_0_below_0_and_too_great(self):
        self.fails(sets_hold, ("sets", 4, self.GROUPS, 0), [[], [0, 2]])
        self.holds(sets_hold, ("sets", 0, [(), ()], 0), [[]])
        self.fails(sets_hold, ("sets", 0, [(), ()], 0), [[0], [0, 1]])
        for k in (-1, -10 ** 30):
            self.fails(sets_hold, ("sets", 4, self.GROUPS, k), [[], [0, 2]])
            self.fails(sets_hold, ("sets", 0, [()], k), [[], [0]])
        for k in (7, 10 ** 30):
            self.holds(sets_hold, ("sets", 4, self.GROUPS, k), [[0, 2], [0, 1, 2, 3, 4, 5]])
            self.fails(sets_hold, ("sets", 4, self.GROUPS, k), [[], [0], [0, 2, 6]])

    def test_no_groups_and_no_things(self):
        self.holds(sets_hold, ("sets", 0, [], 0), [[]])
        self.holds(sets_hold, ("sets", 0, [], 2), [[]])
        self.fails(sets_hold, ("sets", 0, [], 2), [[0], [-1]])
        self.fails(sets_hold, ("sets", 1, [], 2), [[], [0]])
        self.holds(sets_hold, ("sets", 0, [(), (), ()], 2), [[], [0], [0, 2]])
        self.fails(sets_hold, ("sets", 0, [(), (), ()], 2), [[0, 1, 2], [3]])

    def test_a_group_without_things_and_a_group_told_twice(self):
        self.fails(sets_hold, ("sets", 1, [()], 1), [[], [0]])
        self.holds(sets_hold, ("sets", 2, [(0, 1), (), (0, 1)], 3), [[0], [2], [0, 2], [0, 1], [0, 1, 2]])
        self.fails(sets_hold, ("sets", 2, [(0, 1), (), (0, 1)], 3), [[], [1], [0, 0], [2, 0]])

    def test_a_choice_is_of_groups_and_not_of_things(self):
        self.holds(sets_hold, ("sets", 1, [(), (), (0,)], 1), [[2]])
        self.fails(sets_hold, ("sets", 3, [(0, 1, 2)], 3), [[0, 1], [0, 1, 2], [1]])


class NoChoices(Holding):
    """Of people no choice would be too few or too many, and all are friends or no two are: only the form fails."""

    QUESTIONS = [
        (friends_hold, ("friends", 4, list(itertools.combinations(range(4), 2)), -9)),
        (strangers_hold, ("strangers", 4, [], -9)),
        (cover_holds, ("cover", 4, [], 99)),
        (sets_hold, ("sets", 0, [(), (), (), ()], 99)),
    ]

    def test_choices(self):
        for deed, question in self.QUESTIONS:
            self.holds(deed, question, all_choices(4))

    def test_lists_that_do_not_rise(self):
        for deed, question in self.QUESTIONS:
            self.fails(deed, question, [[1, 0], [0, 2, 1], [3, 2, 1, 0], [1, 2, 3, 0], [2, 0, 1, 3]])

    def test_one_number_twice(self):
        for deed, question in self.QUESTIONS:
            self.fails(deed, question, [[0, 0], [3, 3], [0, 1, 1], [0, 0, 1], [0, 1, 0], [1, 2, 2, 3], [2] * 50])

    def test_numbers_below_0(self):
        for deed, question in self.QUESTIONS:
            self.fails(deed, question, [[-1], [-1, 0], [-4, 1], [-2, -1], [-1, 0, 1, 2, 3], [-10 ** 30], [-5]])

    def test_numbers_too_great(self):
        for deed, question in self.QUESTIONS:
            self.fails(deed, question, [[4], [0, 4], [0, 1, 2, 3, 4], [10 ** 30], [5, 6], [-1, 4], [4, 0], [4, 4]])

    def test_all_short_lists(self):
        for deed, question in self.QUESTIONS:
            for length in range(5):
                for answer in itertools.product(range(-1, 6), repeat=length):
                    told = list(answer) in all_choices(4)
                    if deed(question, list(answer)) is not told:
                        self.fail(f"{told} expected: {question}, {answer}")

    def test_longer_than_there_are_people(self):
        for deed, question in self.QUESTIONS:
            self.fails(deed, question, [list(range(5)), list(range(300)), [0, 1, 2, 3] * 100])


class AllSmall(unittest.TestCase):
    def test_webs(self):
        for n in range(5):
            choices = all_choices(n)
            for pairs in all_webs(n):
                for k in range(-1, n + 2):
                    for word, deed, told in WEBS:
                        for choice in choices:
                            if deed((word, n, pairs, k), choice) is not told(n, pairs, k, choice):
                                self.fail(f"{word}, {n}, {pairs}, {k}: {choice}")

    def test_sets(self):
        for n in range(4):
            forms = [tuple(choice) for choice in all_choices(n)]
            for many in range(4):
                for groups in itertools.product(forms, repeat=many):
                    for k in range(-1, many + 2):
                        for choice in all_choices(many):
                            told = are_sets(n, groups, k, choice)
                            if sets_hold(("sets", n, list(groups), k), choice) is not told:
                                self.fail(f"{n}, {groups}, {k}: {choice}")


class Great(unittest.TestCase):
    def test_2000_people(self):
        n = 2000
        ring = sorted([(i, i + 1) for i in range(n - 1)] + [(0, n - 1)])
        even = list(range(0, n, 2))
        self.assertIs(True, strangers_hold(("strangers", n, ring, 1000), even))
        self.assertIs(False, strangers_hold(("strangers", n, ring, 1000), even[:-1] + [n - 1]))
        self.assertIs(True, cover_holds(("cover", n, ring, 1000), even))
        self.assertIs(False, cover_holds(("cover", n, ring, 1000), even[:-1]))
        self.assertIs(False, friends_hold(("friends", n, ring, 0), even))
        self.assertIs(True, sets_hold(("sets", n, [(i,) for i in range(n)], n), list(range(n))))
        self.assertIs(False, sets_hold(("sets", n, [(i,) for i in range(n)], n), list(range(n - 1))))

    def test_9000_pairs(self):
        pairs = list(itertools.combinations(range(134), 2))
        self.assertEqual(8911, len(pairs))
        self.assertIs(True, friends_hold(("friends", 134, pairs, 134), list(range(134))))
        self.assertIs(False, friends_hold(("friends", 134, pairs[:-1], 134), list(range(134))))


class Others(unittest.TestCase):
    def test_few_people(self):
        for n in (0, 1):
            self.assertEqual([], others(n, []))
        self.assertEqual([(0, 1)], others(2, []))
        self.assertEqual([], others(2, [(0, 1)]))

    def test_sorted_each_once(self):
        self.assertEqual([(0, 1), (0, 2), (0, 3), (1, 2), (1, 3), (2, 3)], others(4, []))
        self.assertEqual([(0, 1), (0, 3), (1, 2)], others(4, [(0, 2), (1, 3), (2, 3)]))
        self.assertEqual([], others(4, [(0, 1), (0, 2), (0, 3), (1, 2), (1, 3), (2, 3)]))
        self.assertEqual([(0, 11), (1, 11), (2, 11)],
                         others(12, [two for two in itertools.combinations(range(12), 2) if two[1] < 11 or two[0] > 2]))

    def test_all_small_webs(self):
        for n in range(5):
            for pairs in all_webs(n):
                left = others(n, pairs)
                self.assertEqual([two for two in itertools.combinations(range(n), 2) if two not in pairs], left)
                self.assertEqual(pairs, others(n, left))

    def test_the_kinds_of_what_is_given_back(self):
        left = others(5, [(1, 2)])
        self.assertIs(list, type(left))
        for two in left:
            self.assertIs(tuple, type(two))
            self.assertTrue(all(type(person) is int for person in two))

    def test_many_people(self):
        pairs = list(itertools.combinations(range(120), 2))
        self.assertEqual(pairs, others(120, []))
        self.assertEqual(pairs[1::2], others(120, pairs[::2]))


if __name__ == "__main__":
    unittest.main()
