"""Points 14, 15 and 16: friends turned to strangers, strangers to covers, covers to sets (with point 32)."""

import itertools
import unittest

from chainturn.covers import back_rest, back_ties, back_turning_over, forth_rest, forth_ties, forth_turning_over
from chainturn.covers import turn_rest, turn_ties, turn_turning_over
from chainturn.webs import cover_holds, friends_hold, sets_hold, strangers_hold
from helping import Refusing, all_choices, all_webs, are_friends, are_sets, are_strangers, is_cover, no_choices

PAIRS = [(0, 1), (0, 3), (1, 3), (2, 3)]


def all_questions(word, most):
    """All webs of at most so many people, with k from below 0 to above the number of people."""
    for n in range(most + 1):
        for pairs in all_webs(n):
            for k in range(-2, n + 3):
                yield (word, n, pairs, k)


def same(n, choice):
    return list(choice)


def left(n, choice):
    return [person for person in range(n) if person not in choice]


class Forms(unittest.TestCase):
    def check(self, turn, question, turned):
        with self.subTest(question=question):
            given = turn(question)
            self.assertEqual(turned, given)
            self.assertIs(tuple, type(given))
            self.assertEqual((int, list, int), (type(given[1]), type(given[2]), type(given[3])))
            for part in given[2]:
                self.assertIs(tuple, type(part))
                self.assertTrue(all(type(number) is int for number in part))


class TurningOver(Forms):
    def test_just_the_pairs_that_were_none(self):
        self.check(turn_turning_over, ("friends", 4, PAIRS, 2), ("strangers", 4, [(0, 2), (1, 2)], 2))
        self.check(turn_turning_over, ("friends", 5, [(1, 4)], 3), (
            "strangers", 5, [(0, 1), (0, 2), (0, 3), (0, 4), (1, 2), (1, 3), (2, 3), (2, 4), (3, 4)], 3))

    def test_no_people_no_pairs_and_all_pairs(self):
        self.check(turn_turning_over, ("friends", 0, [], 0), ("strangers", 0, [], 0))
        self.check(turn_turning_over, ("friends", 1, [], 1), ("strangers", 1, [], 1))
        self.check(turn_turning_over, ("friends", 3, [], 2), ("strangers", 3, [(0, 1), (0, 2), (1, 2)], 2))
        self.check(turn_turning_over, ("friends", 3, [(0, 1), (0, 2), (1, 2)], 2), ("strangers", 3, [], 2))

    def test_any_k(self):
        for k in (0, -1, 4, 5, -10 ** 30, 10 ** 30):
            self.check(turn_turning_over, ("friends", 4, PAIRS, k), ("strangers", 4, [(0, 2), (1, 2)], k))

    def test_all_small(self):
        for word, n, pairs, k in all_questions("friends", 4):
            told = [two for two in itertools.combinations(range(n), 2) if two not in pairs]
            self.check(turn_turning_over, (word, n, pairs, k), ("strangers", n, told, k))

    def test_the_same_choice(self):
        question = ("friends", 4, PAIRS, 2)
        for choice in ([0, 1], [2, 3], [0, 1, 3]):
            self.assertEqual(choice, forth_turning_over(question, choice))
            self.assertEqual(choice, back_turning_over(question, choice))
        for k in (0, -1, -10 ** 30):
            for deed in (forth_turning_over, back_turning_over):
                self.assertEqual([], deed(("friends", 4, PAIRS, k), []))
                self.assertEqual([0, 1, 3], deed(("friends", 4, PAIRS, k), [0, 1, 3]))
                self.assertEqual([], deed(("friends", 0, [], k), []))


class Rest(Forms):
    def test_the_same_pairs_and_the_number_of_people_less_k(self):
        self.check(turn_rest, ("strangers", 4, PAIRS, 1), ("cover", 4, PAIRS, 3))
        self.check(turn_rest, ("strangers", 7, PAIRS, 2), ("cover", 7, PAIRS, 5))

    def test_no_people_and_no_pairs(self):
        self.check(turn_rest, ("strangers", 0, [], 0), ("cover", 0, [], 0))
        self.check(turn_rest, ("strangers", 0, [], 2), ("cover", 0, [], -2))
        self.check(turn_rest, ("strangers", 3, [], 3), ("cover", 3, [], 0))

    def test_any_k(self):
        for k, most in [(0, 4), (-1, 5), (-6, 10), (4, 0), (5, -1), (9, -5), (10 ** 30, 4 - 10 ** 30),
                        (-10 ** 30, 4 + 10 ** 30)]:
            self.check(turn_rest, ("strangers", 4, PAIRS, k), ("cover", 4, PAIRS, most))

    def test_all_small(self):
        for word, n, pairs, k in all_questions("strangers", 4):
            self.check(turn_rest, (word, n, pairs, k), ("cover", n, list(pairs), n - k))

    def test_all_that_are_not_chosen(self):
        question = ("strangers", 4, PAIRS, 1)
        for choice, rest in [([0], [1, 2, 3]), ([3], [0, 1, 2]), ([0, 2], [1, 3]), ([1, 2], [0, 3])]:
            self.assertEqual(rest, forth_rest(question, choice))
            self.assertEqual(choice, back_rest(question, rest))
        self.assertEqual([], forth_rest(("strangers", 3, [], 3), [0, 1, 2]))
        self.assertEqual([0, 1, 2], back_rest(("strangers", 3, [], 3), []))

    def test_k_of_0_and_below(self):
        for k in (0, -1, -10 ** 30):
            self.assertEqual([0, 1, 2, 3], forth_rest(("strangers", 4, PAIRS, k), []))
            self.assertEqual([], back_rest(("strangers", 4, PAIRS, k), [0, 1, 2, 3]))
            self.assertEqual([], forth_rest(("strangers", 0, [], k), []))
            self.assertEqual([], back_rest(("strangers", 0, [], k), []))


class Ties(Forms):
    def test_a_thing_for_each_pair_and_a_group_for_each_person(self):
        self.check(turn_ties, ("cover", 4, PAIRS, 2), ("sets", 4, [(0, 1), (0, 2), (3,), (1, 2, 3)], 2))
        self.check(turn_ties, ("cover", 3, [(0, 2)], 1), ("sets", 1, [(0,), (), (0,)], 1))

    def test_people_without_a_pair(self):
        self.check(turn_ties, ("cover", 6, [(1, 3), (3, 4)], 1), ("sets", 2, [(), (0,), (), (0, 1), (1,), ()], 1))
        self.check(turn_ties, ("cover", 3, [], 1), ("sets", 0, [(), (), ()], 1))

    def test_no_people(self):
        self.check(turn_ties, ("cover", 0, [], 0), ("sets", 0, [], 0))
        self.check(turn_ties, ("cover", 0, [], 3), ("sets", 0, [], 3))

    def test_any_k(self):
        for k in (0, -1, 4, 5, -10 ** 30, 10 ** 30):
            self.check(turn_ties, ("cover", 2, [(0, 1)], k), ("sets", 1, [(0,), (0,)], k))

    def test_all_small(self):
        for word, n, pairs, k in all_questions("cover", 4):
            groups = [tuple(e for e in range(len(pairs)) if person in pairs[e]) for person in range(n)]
            self.check(turn_ties, (word, n, pairs, k), ("sets", len(pairs), groups, k))

    def test_the_same_choice(self):
        question = ("cover", 4, PAIRS, 3)
        for choice in ([0, 3], [1, 3], [0, 1, 2], [0, 2, 3]):
            self.assertEqual(choice, forth_ties(question, choice))
            self.assertEqual(choice, back_ties(question, choice))
        for deed in (forth_ties, back_ties):
            self.assertEqual([], deed(("cover", 0, [], 0), []))
            self.assertEqual([], deed(("cover", 3, [], 0), []))
            self.assertEqual([0, 2], deed(("cover", 3, [], 2), [0, 2]))
            self.assertEqual([0, 1, 2, 3], deed(("cover", 4, PAIRS, 10 ** 30), [0, 1, 2, 3]))


# Of each turning: the words of both kinds, its three functions, which choices hold by the tests' own words for the
# first and for the turned question, which by the program's for the turned one, and what becomes of a choice.
TURNINGS = [
    ("friends", "strangers", turn_turning_over, forth_turning_over, back_turning_over, are_friends, are_strangers,
     strangers_hold, same),
    ("strangers", "cover", turn_rest, forth_rest, back_rest, are_strangers, is_cover, cover_holds, left),
    ("cover", "sets", turn_ties, forth_ties, back_ties, is_cover, are_sets, sets_hold, same),
]


class AllSmall(Refusing):
    def led(self, deed, question, choice, told):
        """What a choice that holds is led to, looked over."""
        given = deed(question, choice)
        if given != told or type(given) is not list or any(type(person) is not int for person in given):
            self.fail(f"{deed.__name__}, {question}, {choice}: {given}")
        return given

    def test_forth_and_then_back_is_the_choice_itself(self):
        for word, _, turn, forth, back, holds, turned_holds, looked_over, becomes in TURNINGS:
            for question in all_questions(word, 4):
                turned = turn(question)
                for choice in all_choices(question[1]):
                    if holds(*question[1:], choice):
                        led = self.led(forth, question, choice, becomes(question[1], choice))
                        self.assertTrue(turned_holds(*turned[1:], led))
                        self.assertIs(True, looked_over(turned, led))
                        self.led(back, question, led, choice)

    def test_every_choice_that_holds_for_the_turned_one_is_led_back(self):
        for word, turned_word, turn, _, back, holds, turned_holds, _, becomes in TURNINGS:
            for question in all_questions(word, 4):
                turned = turn(question)
                self.assertEqual(turned_word, turned[0])
                for choice in all_choices(question[1]):
                    if turned_holds(*turned[1:], choice):
                        led = self.led(back, question, choice, becomes(question[1], choice))
                        self.assertTrue(holds(*question[1:], led))

    def test_choices_that_do_not_hold_are_refused(self):
        for word, _, turn, forth, back, holds, turned_holds, _, _ in TURNINGS:
            for question in all_questions(word, 3):
                turned = turn(question)
                for choice in all_choices(question[1]):
                    if not holds(*question[1:], choice):
                        self.refused(forth, question, choice)
                    if not turned_holds(*turned[1:], choice):
                        self.refused(back, question, choice)


class Refused(Refusing):
    def test_what_is_no_choice(self):
        everyone = [(0, 1), (0, 2), (1, 2)]
        for question, forth, back in [
            (("friends", 3, everyone, -9), forth_turning_over, back_turning_over),
            (("friends", 0, [], -9), forth_turning_over, back_turning_over),
            (("strangers", 3, [], -9), forth_rest, back_rest),
            (("strangers", 0, [], -9), forth_rest, back_rest),
            (("cover", 3, [], 99), forth_ties, back_ties),
            (("cover", 0, [], 99), forth_ties, back_ties),
        ]:
            for answer in no_choices(question[1]):
                self.refused(forth, question, answer)
                self.refused(back, question, answer)

    def test_too_few_and_too_many(self):
        for deed in (forth_turning_over, back_turning_over):
            for answer in ([], [0], [0, 1]):
                self.refused(deed, ("friends", 4, PAIRS, 3), answer)
        self.refused(forth_rest, ("strangers", 4, PAIRS, 2), [])
        self.refused(forth_rest, ("strangers", 4, PAIRS, 2), [2])
        self.refused(back_rest, ("strangers", 4, PAIRS, 2), [0, 1, 3])
        self.refused(back_rest, ("strangers", 4, PAIRS, 2), [0, 1, 2, 3])
        for deed in (forth_ties, back_ties):
            for answer in ([0, 1, 3], [0, 1, 2, 3]):
                self.refused(deed, ("cover", 4, PAIRS, 2), answer)

    def test_a_pair_too_many_or_too_few(self):
        for deed in (forth_turning_over, back_turning_over):
            for answer in ([0, 2], [0, 1, 2], [0, 1, 2, 3]):
                self.refused(deed, ("friends", 4, PAIRS, 2), answer)
        for answer in ([0, 1], [2, 3], [0, 1, 3], [0, 1, 2, 3]):
            self.refused(forth_rest, ("strangers", 4, PAIRS, 2), answer)
        for answer in ([], [0], [0, 1], [1, 2], [2, 3]):
            self.refused(back_rest, ("strangers", 4, PAIRS, 2), answer)
        for deed in (forth_ties, back_ties):
            for answer in ([], [0], [0, 1], [1, 2], [2, 3]):
                self.refused(deed, ("cover", 4, PAIRS, 2), answer)

    def test_k_that_no_choice_has(self):
        for k in (4, 10 ** 30):
            for choice in all_choices(3):
                self.refused(forth_turning_over, ("friends", 3, [(0, 1), (0, 2), (1, 2)], k), choice)
                self.refused(back_turning_over, ("friends", 3, [(0, 1), (0, 2), (1, 2)], k), choice)
                self.refused(forth_rest, ("strangers", 3, [], k), choice)
                self.refused(back_rest, ("strangers", 3, [], k), choice)
                self.refused(forth_ties, ("cover", 3, [], -k), choice)
                self.refused(back_ties, ("cover", 3, [], -k), choice)

    def test_the_one_choice_where_the_other_would_hold(self):
        # What holds for the turned question is here the very thing that does not hold for the first one.
        question = ("strangers", 3, [(0, 1), (0, 2)], 2)
        self.assertEqual([0], forth_rest(question, [1, 2]))
        self.assertEqual([1, 2], back_rest(question, [0]))
        self.refused(forth_rest, question, [0])
        self.refused(back_rest, question, [1, 2])


class Great(unittest.TestCase):
    def test_2000_people_and_9000_pairs(self):
        n = 2000
        # The pairs of four people with all others, and 1000 that stand apart from these.
        pairs = sorted([(i, j) for i in range(4) for j in range(4, n)] + [(k, k + 1) for k in range(4, 1004)])
        self.assertEqual(8984, len(pairs))
        few = [0, 1, 2, 3] + list(range(5, 1004, 2))
        many = [person for person in range(n) if person not in few]
        question = ("strangers", n, pairs, len(many))
        self.assertEqual(("cover", n, pairs, len(few)), turn_rest(question))
        self.assertEqual(few, forth_rest(question, many))
        self.assertEqual(many, back_rest(question, few))
        question = ("cover", n, pairs, len(few))
        turned = turn_ties(question)
        self.assertEqual(("sets", 8984, n, len(few)), (turned[0], turned[1], len(turned[2]), turned[3]))
        self.assertEqual(tuple(range(1996)), turned[2][0])
        self.assertEqual((1995, 3991, 5987, 7983), turned[2][1999])
        self.assertEqual(few, forth_ties(question, few))
        self.assertEqual(few, back_ties(question, few))

    def test_130_people_turned_over(self):
        n = 130
        pairs = [two for two in itertools.combinations(range(n), 2) if sum(two) % 2]
        question = ("friends", n, pairs, 2)
        turned = turn_turning_over(question)
        self.assertEqual([two for two in itertools.combinations(range(n), 2) if not sum(two) % 2], turned[2])
        self.assertIs(True, friends_hold(question, [4, 129]))
        self.assertEqual([4, 129], forth_turning_over(question, [4, 129]))
        self.assertEqual([4, 129], back_turning_over(question, [4, 129]))


if __name__ == "__main__":
    unittest.main()
