"""Points 21, 22 and 23: which exact choices hold, colours turned to exact, exact to sums (with points 1, 3 and 32)."""

import itertools
import unittest

from chainturn.exact import back_columns, back_parting, exact_holds, forth_columns, forth_parting
from chainturn.exact import turn_columns, turn_parting
from chainturn.sums import sums_hold
from helping import LeadingOn, Refusing, all_choices, all_colours, all_groups, all_webs_up_to, are_colours, come_to
from helping import is_exact, no_choices

PARTING = (turn_parting, forth_parting, back_parting)
COLUMNS = (turn_columns, forth_columns, back_columns)


def told_groups(n, pairs):
    """The groups by the words of the document, apart from the program."""
    groups = []
    for v in range(n):
        for c in range(3):
            groups.append(tuple(sorted([v] + [n + 3 * e + c for e, pair in enumerate(pairs) if v in pair])))
    return groups + [(n + 3 * e + c,) for e in range(len(pairs)) for c in range(3)]


def told_choice(n, pairs, numbers):
    """What colours are led forth to, by the words of the document."""
    groups = told_groups(n, pairs)
    chosen = [3 * v + number for v, number in enumerate(numbers)]
    met = [thing for group in chosen for thing in groups[group]]
    return chosen + [g for g in range(3 * n, len(groups)) if groups[g][0] not in met]


def in_figures(numbers, base):
    """A number from its figures, the last one first."""
    told = 0
    for number in reversed(numbers):
        told = told * base + number
    return told


class Holding(unittest.TestCase):
    def holds(self, n, groups, answers):
        for answer in answers:
            with self.subTest(n=n, groups=groups, answer=answer):
                self.assertIs(True, exact_holds(("exact", n, groups), answer))

    def fails(self, n, groups, answers):
        for answer in answers:
            with self.subTest(n=n, groups=groups, answer=answer):
                self.assertIs(False, exact_holds(("exact", n, groups), answer))

    def test_each_thing_in_just_one_group_chosen(self):
        groups = [(0, 1), (2,), (1, 2), (0,), (0, 1, 2)]
        self.holds(3, groups, [[0, 1], [2, 3], [4]])

    def test_a_thing_in_none(self):
        self.fails(3, [(0, 1), (2,), (1, 2), (0,), (0, 1, 2)], [[], [0], [1], [2], [3], [1, 3]])
        self.fails(2, [(1,)], [[], [0]])

    def test_a_thing_in_two(self):
        self.fails(3, [(0, 1), (2,), (1, 2), (0,), (0, 1, 2)], [[0, 2], [0, 1, 2], [0, 1, 3], [1, 4], [0, 1, 2, 3, 4]])
        # One thing in two and another in none come to as many as each thing in one.
        self.fails(3, [(0, 1), (1,), (2,)], [[0, 1]])
        self.fails(3, [(0, 1), (0,), (2,)], [[0, 1], [0, 1, 2]])

    def test_a_thing_in_three(self):
        self.fails(1, [(0,), (0,), (0,)], [[0, 1], [0, 2], [1, 2], [0, 1, 2]])

    def test_the_same_group_told_twice(self):
        self.holds(2, [(0, 1), (0, 1)], [[0], [1]])
        self.fails(2, [(0, 1), (0, 1)], [[], [0, 1], [0, 0]])
        self.holds(2, [(0,), (1,), (0,)], [[0, 1], [1, 2]])
        self.fails(2, [(0,), (1,), (0,)], [[0, 2], [0, 1, 2]])

    def test_empty_groups_chosen_and_not_chosen(self):
        self.holds(1, [(), (0,), ()], [[1], [0, 1], [1, 2], [0, 1, 2]])
        self.fails(1, [(), (0,), ()], [[], [0], [2], [0, 2]])
        self.holds(0, [(), ()], [[], [0], [1], [0, 1]])

    def test_no_things(self):
        self.holds(0, [], [[]])
        self.fails(0, [], [[0], [-1], [0, 1]])
        self.fails(0, [()], [[1], [-1], [0, 0]])

    def test_no_groups(self):
        self.fails(1, [], [[], [0], [-1]])
        self.fails(3, [], [[], [0], [0, 1, 2]])

    def test_a_choice_is_of_groups_and_not_of_things(self):
        self.holds(1, [(), (), (0,)], [[2]])
        self.fails(3, [(0, 1, 2)], [[0, 1], [0, 1, 2], [1]])

    def test_what_is_no_choice(self):
        for many in range(4):
            self.fails(0, [()] * many, no_choices(many))

    def test_lists_that_would_hold_but_for_their_form(self):
        self.fails(2, [(0,), (1,)], [[1, 0], [-2, -1], [-1, 0], [0, -1], [0, 1, 2], [0, 1, -1]])
        self.fails(1, [(0,)], [[-1], [1], [10 ** 30], [-10 ** 30], [0, 0]])

    def test_all_small(self):
        for n, many in itertools.product(range(4), range(4)):
            for groups in all_groups(n, many):
                for choice in all_choices(many):
                    if exact_holds(("exact", n, groups), choice) is not is_exact(n, groups, choice):
                        self.fail(f"{n}, {groups}: {choice}")


class Groups(unittest.TestCase):
    def check(self, n, pairs, things, groups):
        with self.subTest(n=n, pairs=pairs):
            self.assertEqual(("exact", things, groups), turn_parting(("colours", n, pairs)))

    def test_no_things(self):
        self.check(0, [], 0, [])

    def test_no_pairs(self):
        self.check(1, [], 1, [(0,), (0,), (0,)])
        self.check(2, [], 2, [(0,), (0,), (0,), (1,), (1,), (1,)])

    def test_one_pair(self):
        self.check(2, [(0, 1)], 5, [
            (0, 2), (0, 3), (0, 4),
            (1, 2), (1, 3), (1, 4),
            (2,), (3,), (4,),
        ])

    def test_a_thing_without_a_pair(self):
        self.check(3, [(0, 2)], 6, [
            (0, 3), (0, 4), (0, 5),
            (1,), (1,), (1,),
            (2, 3), (2, 4), (2, 5),
            (3,), (4,), (5,),
        ])

    def test_a_thing_with_several_pairs(self):
        self.check(4, [(0, 1), (1, 2), (1, 3)], 13, [
            (0, 4), (0, 5), (0, 6),
            (1, 4, 7, 10), (1, 5, 8, 11), (1, 6, 9, 12),
            (2, 7), (2, 8), (2, 9),
            (3, 10), (3, 11), (3, 12),
            (4,), (5,), (6,), (7,), (8,), (9,), (10,), (11,), (12,),
        ])

    def test_all_small(self):
        for n, pairs in all_webs_up_to(4):
            self.check(n, pairs, n + 3 * len(pairs), told_groups(n, pairs))

    def test_the_kinds_of_what_is_given_back(self):
        for n, pairs in all_webs_up_to(3):
            turned = turn_parting(("colours", n, pairs))
            self.assertEqual((tuple, 3, int, list), (type(turned), len(turned), type(turned[1]), type(turned[2])))
            self.assertEqual(3 * n + 3 * len(pairs), len(turned[2]))
            for group in turned[2]:
                self.assertIs(tuple, type(group))
                self.assertEqual(list(group), sorted(set(group)))
                self.assertTrue(all(type(thing) is int and 0 <= thing < turned[1] for thing in group))


class PartingAnswers(LeadingOn):
    def test_forth_without_pairs(self):
        self.assertEqual([], forth_parting(("colours", 0, []), []))
        for number in range(3):
            self.assertEqual([number], forth_parting(("colours", 1, []), [number]))
        self.assertEqual([2, 3, 7], forth_parting(("colours", 3, []), [2, 0, 1]))

    def test_forth_the_groups_of_the_numbers_and_those_of_one_thing_left(self):
        question = ("colours", 2, [(0, 1)])
        for numbers, choice in [([0, 1], [0, 4, 8]), ([0, 2], [0, 5, 7]), ([1, 0], [1, 3, 8]),
                                ([1, 2], [1, 5, 6]), ([2, 0], [2, 3, 7]), ([2, 1], [2, 4, 6])]:
            self.assertEqual(choice, forth_parting(question, numbers))
        self.assertEqual([1, 5, 8, 9], forth_parting(("colours", 3, [(0, 2)]), [1, 2, 2]))
        self.assertEqual([0, 5, 6, 10, 13], forth_parting(("colours", 3, [(0, 1), (1, 2)]), [0, 2, 0]))

    def test_back_the_number_of_the_group_chosen(self):
        question = ("colours", 2, [(0, 1)])
        for numbers, choice in [([0, 1], [0, 4, 8]), ([0, 2], [0, 5, 7]), ([1, 0], [1, 3, 8]),
                                ([1, 2], [1, 5, 6]), ([2, 0], [2, 3, 7]), ([2, 1], [2, 4, 6])]:
            self.assertEqual(numbers, back_parting(question, choice))
        self.assertEqual([], back_parting(("colours", 0, []), []))
        self.assertEqual([2, 0, 1], back_parting(("colours", 3, []), [2, 3, 7]))

    def test_all_small(self):
        for n, pairs in all_webs_up_to(2) + [(3, []), (3, [(0, 2)])]:
            choices = all_choices(3 * n + 3 * len(pairs))
            self.led_on(PARTING, ("colours", n, pairs), are_colours, is_exact, all_colours(n), choices)

    def test_every_answer_of_three_things(self):
        for pairs in ([(0, 1), (0, 2)], [(0, 1), (1, 2)], [(0, 2), (1, 2)]):
            question = ("colours", 3, pairs)
            groups = told_groups(3, pairs)
            held = [choice for choice in all_choices(15) if is_exact(9, groups, choice)]
            self.led_on(PARTING, question, are_colours, is_exact, all_colours(3), held)
            self.assertEqual(sorted(held), sorted(told_choice(3, pairs, numbers) for numbers in all_colours(3)
                                                  if are_colours(3, pairs, numbers)))

    def test_forth_to_the_choice(self):
        for n, pairs in all_webs_up_to(4):
            for numbers in all_colours(n):
                if are_colours(n, pairs, numbers):
                    led = forth_parting(("colours", n, pairs), numbers)
                    self.assertEqual(told_choice(n, pairs, numbers), led)
                    self.assertEqual(numbers, back_parting(("colours", n, pairs), led))

    def test_four_that_are_all_pairs_have_no_answer(self):
        pairs = list(itertools.combinations(range(4), 2))
        for numbers in all_colours(4):
            self.refused(forth_parting, ("colours", 4, pairs), numbers)
            self.refused(back_parting, ("colours", 4, pairs), told_choice(4, pairs, numbers))


class PartingRefused(Refusing):
    def test_forth_of_numbers_that_do_not_hold(self):
        for n, pairs in all_webs_up_to(2):
            for length in range(4):
                for numbers in itertools.product(range(-1, 4), repeat=length):
                    if not are_colours(n, pairs, numbers):
                        self.refused(forth_parting, ("colours", n, pairs), list(numbers))

    def test_forth_of_great_and_low_numbers(self):
        for numbers in ([10 ** 30, 0], [0, -10 ** 30], [0, 3], [-1, 0], [-3, -2], [0], [], [0, 1, 2]):
            self.refused(forth_parting, ("colours", 2, []), numbers)
            self.refused(forth_parting, ("colours", 2, [(0, 1)]), numbers)

    def test_back_of_wrong_choices(self):
        question = ("colours", 2, [(0, 1)])
        # Things left out, things in two groups, one thing's three groups together, both things alike.
        for choice in ([], [0], [0, 4], [0, 4, 7], [0, 4, 6, 8], [0, 1, 4, 8], [0, 1, 2], [0, 3, 7, 8], [6, 7, 8]):
            self.refused(back_parting, question, choice)

    def test_back_of_what_is_no_choice(self):
        question = ("colours", 2, [(0, 1)])
        for answer in no_choices(9) + [[4, 0, 8], [0, 8, 4], [0, 4, 8, 8], [0, 4, 8, 9], [-9, 4, 8], [0, 4, -1]]:
            self.refused(back_parting, question, answer)
        for answer in no_choices(0):
            self.refused(back_parting, ("colours", 0, []), answer)


class Columns(unittest.TestCase):
    def check(self, n, groups, numbers, goal):
        with self.subTest(n=n, groups=groups):
            given = turn_columns(("exact", n, groups))
            self.assertEqual(("sums", numbers, goal), given)
            self.assertEqual((tuple, list, int), (type(given), type(given[1]), type(given[2])))
            self.assertTrue(all(type(number) is int for number in given[1]))

    def test_no_groups(self):
        self.check(0, [], [], 0)
        self.check(1, [], [], 1)
        self.check(5, [], [], 5)

    def test_no_things(self):
        self.check(0, [()], [0], 0)
        self.check(0, [(), (), ()], [0, 0, 0], 0)

    def test_empty_groups(self):
        self.check(2, [(), (0, 1)], [0, 4], 4)
        self.check(2, [()], [0], 3)
        self.check(1, [(), (), (0,)], [0, 0, 1], 1)

    def test_one_group(self):
        self.check(4, [(0, 1, 2, 3)], [15], 15)
        self.check(4, [(2,)], [4], 15)

    def test_several_groups(self):
        # B is 10, so the things are the figures, the last one first.
        groups = [(0,), (1,), (0, 2), (1, 2), (0, 1, 2, 3), (3,), (0, 3), (), (0,)]
        self.check(4, groups, [1, 10, 101, 110, 1111, 1000, 1001, 0, 1], 1111)
        self.check(3, [(0, 1), (2,), (1, 2)], [1 + 4, 16, 4 + 16], 1 + 4 + 16)
        self.check(3, [(0, 1), (0, 1), (0, 1)], [5, 5, 5], 21)

    def test_all_small(self):
        for n, many in itertools.product(range(4), range(4)):
            for groups in all_groups(n, many):
                numbers = [in_figures([int(thing in group) for thing in range(n)], many + 1) for group in groups]
                self.check(n, groups, numbers, in_figures([1] * n, many + 1))


class ColumnsAnswers(LeadingOn):
    def test_the_same_choice(self):
        question = ("exact", 3, [(0, 1), (2,), (1, 2), (0,), ()])
        for deed in (forth_columns, back_columns):
            for choice in ([0, 1], [2, 3], [0, 1, 4], [2, 3, 4]):
                given = deed(question, choice)
                self.assertEqual(choice, given)
                self.assertIsNot(choice, given)
            self.assertEqual([], deed(("exact", 0, []), []))
            self.assertEqual([], deed(("exact", 0, [()]), []))
            self.assertEqual([0], deed(("exact", 0, [()]), [0]))

    def test_all_small(self):
        for n, many in itertools.product(range(4), range(4)):
            for groups in all_groups(n, many):
                question = ("exact", n, groups)
                choices = all_choices(many)
                self.led_on(COLUMNS, question, is_exact, come_to, choices, choices)
                for choice in choices:
                    if is_exact(n, groups, choice):
                        self.assertEqual(choice, forth_columns(question, choice))
                    if come_to(*turn_columns(question)[1:], choice):
                        self.assertEqual(choice, back_columns(question, choice))

    def test_a_thing_in_all_groups_makes_no_thing_more(self):
        # As many groups as there are all have thing 0: still less than thing 1.
        for many in range(2, 12):
            question = ("exact", 2, [(0,)] * many)
            for deed in (forth_columns, back_columns):
                for size in range(many + 1):
                    self.refused(deed, question, list(range(size)))

    def test_what_does_not_hold_is_refused(self):
        question = ("exact", 3, [(0, 1), (2,), (1, 2), (0,), ()])
        for deed in (forth_columns, back_columns):
            for answer in ([], [0], [0, 2], [0, 1, 2], [0, 1, 3], [0, 4], [1, 0], [0, 0, 1], [-5, 1], [0, -4],
                           [0, 1, 5], [0, 1, -1], [0, 1, 4, 4], [0, 1, 10 ** 30], [0, 1, 2, 3, 4]):
                self.refused(deed, question, answer)
            self.refused(deed, ("exact", 1, []), [])
            self.refused(deed, ("exact", 1, [()]), [])
            self.refused(deed, ("exact", 1, [()]), [0])

    def test_what_is_no_choice(self):
        for many in range(4):
            for answer in no_choices(many):
                self.refused(forth_columns, ("exact", 0, [()] * many), answer)
                self.refused(back_columns, ("exact", 0, [()] * many), answer)


class Great(unittest.TestCase):
    def test_2000_things_and_groups(self):
        n = 2000
        groups = [(thing,) for thing in range(n)]
        self.assertIs(True, exact_holds(("exact", n, groups), list(range(n))))
        self.assertIs(False, exact_holds(("exact", n, groups), list(range(n - 1))))
        groups[7] = (7, 8)
        self.assertIs(False, exact_holds(("exact", n, groups), list(range(n))))
        self.assertIs(True, exact_holds(("exact", n, groups), [thing for thing in range(n) if thing != 8]))

    def test_300_things_parted(self):
        n = 300
        question = ("colours", n, [(v, v + 1) for v in range(n - 1)])
        turned = turn_parting(question)
        self.assertEqual((n + 3 * (n - 1), 3 * n + 3 * (n - 1)), (turned[1], len(turned[2])))
        self.assertEqual(told_groups(*question[1:]), turned[2])
        numbers = [(v + v // 7) % 3 for v in range(n)]
        led = forth_parting(question, numbers)
        self.assertEqual(told_choice(*question[1:], numbers), led)
        self.assertIs(True, exact_holds(turned, led))
        self.assertEqual(numbers, back_parting(question, led))

    def test_numbers_of_1000_figures(self):
        n = 300
        groups = [(thing, thing + 1) for thing in range(0, n, 2)] + [(thing % n,) for thing in range(1850)]
        question = ("exact", n, groups)
        turned = turn_columns(question)
        self.assertEqual(2000, len(turned[1]))
        self.assertEqual(2001 ** 298 + 2001 ** 299, turned[1][149])
        self.assertEqual(in_figures([1] * n, 2001), turned[2])
        choice = list(range(150))
        self.assertIs(True, sums_hold(turned, choice))
        self.assertEqual(choice, forth_columns(question, choice))
        self.assertEqual(choice, back_columns(question, choice))


if __name__ == "__main__":
    unittest.main()
