"""Points 21, 25 and 26: which sums, halves and boxes hold, sums turned to halves, halves to boxes (and 1, 3, 32)."""

import itertools
import unittest

from chainturn.sums import back_evening, back_packing, boxes_hold, forth_evening, forth_packing, halves_hold, sums_hold
from chainturn.sums import turn_evening, turn_packing
from helping import Holding, LeadingOn, all_choices, are_boxes, are_halves, come_to, no_choices

GREAT = 10 ** 999


def all_numbers(most, greatest):
    """All lists of at most so many numbers, none above the greatest."""
    return [list(row) for size in range(most + 1) for row in itertools.product(range(greatest + 1), repeat=size)]


def all_boxes(length, least, most):
    return [list(row) for row in itertools.product(range(least, most + 1), repeat=length)]


class Sums(Holding):
    def test_the_goal_reached_and_missed_by_one(self):
        self.holds(sums_hold, ("sums", [3, 5, 8, 4], 12), [[0, 1, 3], [2, 3]])
        for goal in (11, 13):
            self.fails(sums_hold, ("sums", [3, 5, 8, 4], goal), [[0, 1, 3], [2, 3]])
        self.holds(sums_hold, ("sums", [3, 5, 8, 4], 20), [[0, 1, 2, 3]])
        self.fails(sums_hold, ("sums", [3, 5, 8, 4], 19), [[0, 1, 2, 3]])
        self.fails(sums_hold, ("sums", [3, 5, 8, 4], 21), [[0, 1, 2, 3]])

    def test_places_and_not_numbers_are_chosen(self):
        self.holds(sums_hold, ("sums", [7, 7, 1], 7), [[0], [1]])
        self.fails(sums_hold, ("sums", [7, 7, 1], 7), [[2], [7], [0, 1]])

    def test_the_empty_choice(self):
        self.holds(sums_hold, ("sums", [3, 5], 0), [[]])
        self.fails(sums_hold, ("sums", [3, 5], 1), [[]])
        self.fails(sums_hold, ("sums", [3, 5], 8), [[]])
        self.fails(sums_hold, ("sums", [3, 5], GREAT), [[]])

    def test_zeros_among_the_numbers(self):
        self.holds(sums_hold, ("sums", [0, 4, 0], 4), [[1], [0, 1], [1, 2], [0, 1, 2]])
        self.fails(sums_hold, ("sums", [0, 4, 0], 4), [[], [0], [0, 2]])
        self.holds(sums_hold, ("sums", [0, 4, 0], 0), [[], [0], [2], [0, 2]])
        self.fails(sums_hold, ("sums", [0, 4, 0], 0), [[1], [0, 1], [0, 0], [2, 0]])

    def test_no_numbers(self):
        self.holds(sums_hold, ("sums", [], 0), [[]])
        self.fails(sums_hold, ("sums", [], 0), [[0], [-1], [0, 1]])
        self.fails(sums_hold, ("sums", [], 1), [[], [0], [-1]])

    def test_very_great_numbers(self):
        numbers = [GREAT, GREAT + 1, 1, 9 * GREAT]
        self.holds(sums_hold, ("sums", numbers, GREAT + 1), [[1], [0, 2]])
        self.fails(sums_hold, ("sums", numbers, GREAT + 1), [[0], [1, 2], [2], [3]])
        self.holds(sums_hold, ("sums", numbers, 11 * GREAT + 2), [[0, 1, 2, 3]])
        self.fails(sums_hold, ("sums", numbers, 11 * GREAT + 3), [[0, 1, 2, 3]])
        self.fails(sums_hold, ("sums", numbers, 11 * GREAT + 1), [[0, 1, 2, 3]])

    def test_what_is_no_choice(self):
        for many in range(4):
            self.fails(sums_hold, ("sums", [0] * many, 0), no_choices(many))

    def test_lists_that_are_not_rising_reach_the_goal(self):
        self.fails(sums_hold, ("sums", [3, 5], 8), [[1, 0]])
        self.fails(sums_hold, ("sums", [3, 5], 6), [[0, 0]])
        self.fails(sums_hold, ("sums", [3, 5], 5), [[-1]])
        self.fails(sums_hold, ("sums", [3, 5], 8), [[-2, -1], [-1, 0]])

    def test_all_small(self):
        for numbers in all_numbers(4, 2):
            for goal in range(sum(numbers) + 2):
                for choice in all_choices(len(numbers)):
                    if sums_hold(("sums", numbers, goal), choice) is not come_to(numbers, goal, choice):
                        self.fail(f"{numbers}, {goal}: {choice}")


class Halves(Holding):
    def test_both_sides_alike_and_unlike(self):
        question = ("halves", [3, 1, 2, 2])
        self.holds(halves_hold, question, [[0, 1], [2, 3]])
        self.fails(halves_hold, question, [[], [0], [0, 2], [0, 3], [1, 2], [0, 1, 2], [0, 1, 2, 3]])
        self.holds(halves_hold, ("halves", [5, 5]), [[0], [1]])
        self.fails(halves_hold, ("halves", [5, 5]), [[], [0, 1]])

    def test_one_above_and_one_below(self):
        self.holds(halves_hold, ("halves", [4, 3, 1]), [[0], [1, 2]])
        self.fails(halves_hold, ("halves", [5, 3, 1]), [[0], [1, 2]])
        self.fails(halves_hold, ("halves", [3, 3, 1]), [[0], [1, 2]])

    def test_the_empty_choice(self):
        self.holds(halves_hold, ("halves", [0]), [[], [0]])
        self.holds(halves_hold, ("halves", [0, 0, 0]), all_choices(3))
        self.fails(halves_hold, ("halves", [1]), [[], [0]])
        self.fails(halves_hold, ("halves", [0, 2, 2]), [[], [0], [0, 1, 2], [1, 2]])

    def test_no_numbers(self):
        self.holds(halves_hold, ("halves", []), [[]])
        self.fails(halves_hold, ("halves", []), [[0], [-1], [0, 1]])

    def test_an_odd_sum(self):
        for numbers in ([1], [2, 1], [1, 1, 1], [3, 2, 2], [0, 1]):
            self.fails(halves_hold, ("halves", numbers), all_choices(len(numbers)))

    def test_very_great_numbers(self):
        self.holds(halves_hold, ("halves", [GREAT, 1, GREAT + 1]), [[2], [0, 1]])
        self.fails(halves_hold, ("halves", [GREAT, 1, GREAT + 2]), all_choices(3))
        self.fails(halves_hold, ("halves", [GREAT, 1, GREAT]), all_choices(3))

    def test_what_is_no_choice(self):
        for many in range(4):
            self.fails(halves_hold, ("halves", [0] * many), no_choices(many))
        self.fails(halves_hold, ("halves", [3, 1, 2, 2]), [[1, 0], [3, 2], [2, 2], [-4, -3], [-2, -1], [0, 1, 4]])

    def test_all_small(self):
        for numbers in all_numbers(4, 3):
            for choice in all_choices(len(numbers)):
                if halves_hold(("halves", numbers), choice) is not are_halves(numbers, choice):
                    self.fail(f"{numbers}: {choice}")


class Boxes(Holding):
    def test_just_full_and_one_above(self):
        self.holds(boxes_hold, ("boxes", [3, 4, 2, 1], 5, 2), [[0, 1, 0, 1], [1, 0, 1, 0]])
        self.fails(boxes_hold, ("boxes", [3, 4, 2, 1], 4, 2), [[0, 1, 0, 1], [1, 0, 1, 0]])
        self.fails(boxes_hold, ("boxes", [3, 4, 2, 1], 5, 2), [[0, 0, 1, 1], [0, 1, 0, 0], [0, 1, 1, 1], [0] * 4])
        self.holds(boxes_hold, ("boxes", [7], 7, 1), [[0]])
        self.fails(boxes_hold, ("boxes", [8], 7, 1), [[0]])

    def test_each_box_counts(self):
        self.holds(boxes_hold, ("boxes", [2, 2, 2], 2, 3), list(map(list, itertools.permutations(range(3)))))
        for answer in ([0, 0, 1], [1, 1, 0], [2, 2, 0], [0, 1, 1], [0, 2, 2], [1, 0, 1]):
            self.fails(boxes_hold, ("boxes", [2, 2, 2], 2, 3), [answer])
            self.fails(boxes_hold, ("boxes", [2, 2, 2], 3, 3), [answer])
            self.holds(boxes_hold, ("boxes", [2, 2, 2], 4, 3), [answer])

    def test_boxes_that_stay_empty(self):
        self.holds(boxes_hold, ("boxes", [1, 1], 2, 9), [[0, 0], [8, 8], [3, 5]])

    def test_too_short_and_too_long(self):
        self.fails(boxes_hold, ("boxes", [1, 1], 9, 2), [[], [0], [1], [0, 1, 0], [0, 1, 0, 1], [0] * 50])
        self.fails(boxes_hold, ("boxes", [0, 0], 0, 2), [[], [0], [1], [0, 1, 0], [0, 1, 0, 1], [0] * 50])

    def test_a_box_number_below_0_and_too_great(self):
        self.fails(boxes_hold, ("boxes", [1, 1], 9, 2), [[-1, 0], [0, -1], [2, 0], [0, 2], [-2, -2], [GREAT, 0]])
        self.holds(boxes_hold, ("boxes", [1, 1], 9, 3), [[2, 0], [0, 2], [2, 2]])
        self.fails(boxes_hold, ("boxes", [0], 0, 1), [[1], [-1], [-10 ** 30], [10 ** 30]])

    def test_no_boxes(self):
        self.holds(boxes_hold, ("boxes", [], 0, 0), [[]])
        self.holds(boxes_hold, ("boxes", [], 5, 0), [[]])
        self.fails(boxes_hold, ("boxes", [0], 5, 0), [[], [0], [-1], [1], [0, 0]])
        self.fails(boxes_hold, ("boxes", [1, 2], 5, 0), [[], [0, 0], [-1, -1]])

    def test_a_size_of_0(self):
        self.holds(boxes_hold, ("boxes", [0, 0], 0, 1), [[0, 0]])
        self.holds(boxes_hold, ("boxes", [0, 0], 0, 2), [[0, 0], [0, 1], [1, 1]])
        self.fails(boxes_hold, ("boxes", [0, 1], 0, 2), [[0, 0], [0, 1], [1, 0], [1, 1]])

    def test_no_numbers(self):
        for size, many in [(0, 0), (0, 3), (3, 0), (3, 3), (GREAT, GREAT)]:
            self.holds(boxes_hold, ("boxes", [], size, many), [[]])
            self.fails(boxes_hold, ("boxes", [], size, many), [[0], [-1], [0, 0], [many]])

    def test_very_great_numbers(self):
        self.holds(boxes_hold, ("boxes", [GREAT, 1, GREAT], GREAT + 1, 2), [[0, 0, 1], [0, 1, 1]])
        self.fails(boxes_hold, ("boxes", [GREAT, 1, GREAT], GREAT, 2), [[0, 0, 1], [0, 1, 1]])
        # So many boxes are never looked at one by one.
        self.holds(boxes_hold, ("boxes", [1, 2], 2, GREAT), [[GREAT - 1, 0], [0, GREAT - 1], [5, GREAT // 2]])
        self.fails(boxes_hold, ("boxes", [1, 2], 2, GREAT), [[GREAT, 0], [0, GREAT], [GREAT - 1, GREAT - 1]])

    def test_all_small(self):
        for numbers in all_numbers(3, 2):
            for size, many in itertools.product(range(5), range(4)):
                for length in range(len(numbers) + 2):
                    for answer in all_boxes(length, -1, many) if length < 4 else [[0] * length]:
                        told = are_boxes(numbers, size, many, answer)
                        if boxes_hold(("boxes", numbers, size, many), answer) is not told:
                            self.fail(f"{numbers}, {size}, {many}: {answer}")


class Evening(LeadingOn):
    DEEDS = (turn_evening, forth_evening, back_evening)

    def check(self, numbers, goal, turned):
        with self.subTest(numbers=numbers, goal=goal):
            given = turn_evening(("sums", numbers, goal))
            self.assertEqual(("halves", turned), given)
            self.assertEqual((tuple, list), (type(given), type(given[1])))
            self.assertTrue(all(type(number) is int for number in given[1]))

    def test_a_goal_below_the_sum(self):
        self.check([3, 5, 8], 11, [3, 5, 8, 6, 12])
        self.check([3, 5, 8], 15, [3, 5, 8, 2, 16])
        self.check([3, 5, 8], 1, [3, 5, 8, 16, 2])

    def test_a_goal_equal_to_the_sum(self):
        self.check([3, 5, 8], 16, [3, 5, 8, 1, 17])
        self.check([4], 4, [4, 1, 5])

    def test_a_goal_above_the_sum(self):
        self.check([3, 5, 8], 17, [3, 5, 8, 17])
        self.check([3, 5, 8], 18, [3, 5, 8, 17])
        self.check([3, 5, 8], GREAT, [3, 5, 8, 17])
        self.check([0, 0], 1, [0, 0, 1])

    def test_a_goal_of_0(self):
        self.check([3, 5, 8], 0, [3, 5, 8, 17, 1])
        self.check([0], 0, [0, 1, 1])

    def test_no_numbers(self):
        self.check([], 0, [1, 1])
        self.check([], 1, [1])
        self.check([], 7, [1])

    def test_very_great_numbers(self):
        self.check([GREAT, 7], GREAT, [GREAT, 7, 8, GREAT + 1])
        self.check([GREAT, 7], GREAT + 8, [GREAT, 7, GREAT + 8])

    def test_forth_the_choice_and_the_place_behind_the_numbers(self):
        question = ("sums", [3, 5, 8, 0], 8)
        for choice in ([2], [0, 1], [2, 3], [0, 1, 3]):
            self.assertEqual(choice + [4], forth_evening(question, choice))
        self.assertEqual([3], forth_evening(("sums", [3, 5, 8], 0), []))
        self.assertEqual([0, 1, 2, 3], forth_evening(("sums", [3, 5, 8], 16), [0, 1, 2]))
        self.assertEqual([0], forth_evening(("sums", [], 0), []))

    def test_back_of_either_side(self):
        question = ("sums", [3, 5, 8, 0], 8)
        for side, other, choice in [([2, 4], [0, 1, 3, 5], [2]), ([0, 1, 4], [2, 3, 5], [0, 1]),
                                    ([2, 3, 4], [0, 1, 5], [2, 3]), ([0, 1, 3, 4], [2, 5], [0, 1, 3])]:
            self.assertEqual(choice, back_evening(question, side))
            self.assertEqual(choice, back_evening(question, other))
        self.assertEqual([], back_evening(("sums", [3, 5], 0), [2]))
        self.assertEqual([], back_evening(("sums", [3, 5], 0), [0, 1, 3]))
        self.assertEqual([0, 1], back_evening(("sums", [3, 5], 8), [0, 1, 2]))
        self.assertEqual([0, 1], back_evening(("sums", [3, 5], 8), [3]))
        self.assertEqual([], back_evening(("sums", [], 0), [0]))
        self.assertEqual([], back_evening(("sums", [], 0), [1]))

    def test_where_both_added_numbers_are_alike(self):
        # S + 1 - G and G + 1 are both 4, so only the place tells them apart.
        question = ("sums", [1, 2, 3], 3)
        self.check([1, 2, 3], 3, [1, 2, 3, 4, 4])
        self.assertEqual([2], back_evening(question, [2, 3]))
        self.assertEqual([0, 1], back_evening(question, [2, 4]))
        self.assertEqual([0, 1], back_evening(question, [0, 1, 3]))
        self.assertEqual([2], back_evening(question, [0, 1, 4]))

    def test_all_small(self):
        for numbers in all_numbers(3, 3) + [[2, 3, 4, 6], [0, 1, 1, 2, 4]]:
            for goal in range(sum(numbers) + 3):
                choices = all_choices(len(numbers))
                turned_choices = all_choices(len(numbers) + (2 if goal <= sum(numbers) else 1))
                question = ("sums", numbers, goal)
                self.led_on(self.DEEDS, question, come_to, are_halves, choices, turned_choices)
                for choice in choices:
                    if come_to(numbers, goal, choice):
                        self.assertEqual(choice + [len(numbers)], forth_evening(question, choice))

    def test_a_goal_above_the_sum_has_no_answer(self):
        for numbers in ([], [0], [1], [2, 3], [0, 0, 4]):
            for goal in (sum(numbers) + 1, sum(numbers) + 2, GREAT):
                for choice in all_choices(len(numbers) + 2):
                    self.refused(forth_evening, ("sums", numbers, goal), choice)
                    self.refused(back_evening, ("sums", numbers, goal), choice)

    def test_what_does_not_hold_is_refused(self):
        question = ("sums", [3, 5, 8, 0], 8)
        for answer in ([], [0], [1], [0, 2], [3], [1, 0], [2, 2], [-2], [2, 4], [4], [0, 1, 2, 3], [0, 1, 2, 3, 4]):
            self.refused(forth_evening, question, answer)
        for answer in ([], [2], [4], [5], [4, 5], [2, 4, 5], [4, 2], [2, 2, 4], [-4, 4], [2, 4, 6], [0, 1, 2, 3, 4, 5]):
            self.refused(back_evening, question, answer)

    def test_what_is_no_choice(self):
        for many in range(3):
            question = ("sums", [0] * many, 0)
            for answer in no_choices(many):
                self.refused(forth_evening, question, answer)
            for answer in no_choices(many + 2):
                self.refused(back_evening, question, answer)


class Packing(LeadingOn):
    DEEDS = (turn_packing, forth_packing, back_packing)

    def check(self, numbers, size):
        with self.subTest(numbers=numbers):
            given = turn_packing(("halves", numbers))
            self.assertEqual(("boxes", numbers, size, 2), given)
            self.assertEqual((tuple, list, int, int), (type(given), *map(type, given[1:])))

    def test_even_sums(self):
        self.check([3, 1, 2, 2], 4)
        self.check([6], 3)
        self.check([1, 1], 1)

    def test_odd_sums(self):
        self.check([3, 1, 2, 1], 3)
        self.check([1], 0)
        self.check([2, 5], 3)

    def test_no_numbers_and_zeros(self):
        self.check([], 0)
        self.check([0], 0)
        self.check([0, 0, 0], 0)

    def test_very_great_numbers(self):
        self.check([GREAT, GREAT], GREAT)
        self.check([GREAT + 1, GREAT], GREAT)
        self.check([10 ** 1000], 5 * GREAT)

    def test_forth_box_0_for_the_chosen_places(self):
        question = ("halves", [3, 1, 2, 2])
        self.assertEqual([0, 0, 1, 1], forth_packing(question, [0, 1]))
        self.assertEqual([1, 1, 0, 0], forth_packing(question, [2, 3]))
        self.assertEqual([], forth_packing(("halves", []), []))
        self.assertEqual([1, 1], forth_packing(("halves", [0, 0]), []))
        self.assertEqual([1, 0], forth_packing(("halves", [0, 0]), [1]))
        self.assertEqual([0, 0], forth_packing(("halves", [0, 0]), [0, 1]))

    def test_back_the_places_in_box_0(self):
        question = ("halves", [3, 1, 2, 2])
        self.assertEqual([0, 1], back_packing(question, [0, 0, 1, 1]))
        self.assertEqual([2, 3], back_packing(question, [1, 1, 0, 0]))
        self.assertEqual([], back_packing(("halves", []), []))
        self.assertEqual([], back_packing(("halves", [0, 0]), [1, 1]))
        self.assertEqual([1], back_packing(("halves", [0, 0]), [1, 0]))
        self.assertEqual([0, 1], back_packing(("halves", [0, 0]), [0, 0]))

    def test_all_small(self):
        for numbers in all_numbers(4, 3):
            question = ("halves", numbers)
            choices = all_choices(len(numbers))
            self.led_on(self.DEEDS, question, are_halves, are_boxes, choices, all_boxes(len(numbers), 0, 2))
            for choice in choices:
                if are_halves(numbers, choice):
                    told = [0 if place in choice else 1 for place in range(len(numbers))]
                    self.assertEqual(told, forth_packing(question, choice))

    def test_what_does_not_hold_is_refused(self):
        question = ("halves", [3, 1, 2, 2])
        for answer in ([], [0], [0, 2], [1, 0], [0, 0, 1], [-1, 2], [0, 4], [0, 1, 2, 3], [0, 0, 1, 1]):
            self.refused(forth_packing, question, answer)
        for answer in ([], [0], [0, 1], [0, 0, 1], [0, 0, 1, 1, 0], [0, 0, 1, 1, 1], [0, 1, 0, 1], [0] * 4, [1] * 4,
                       [0, 0, 2, 2], [2, 2, 1, 1], [-1, -1, 0, 0], [0, 0, 1, 2], [0, 0, 1, 10 ** 30]):
            self.refused(back_packing, question, answer)

    def test_an_odd_sum_has_no_answer(self):
        for numbers in ([1], [2, 1], [1, 1, 1], [0, 3, 0]):
            for choice in all_choices(len(numbers)):
                self.refused(forth_packing, ("halves", numbers), choice)
            for answer in all_boxes(len(numbers), -1, 2):
                self.refused(back_packing, ("halves", numbers), answer)

    def test_what_is_no_answer(self):
        for many in range(4):
            question = ("halves", [0] * many)
            for answer in no_choices(many):
                self.refused(forth_packing, question, answer)
            for length in range(6):
                if length != many:
                    self.refused(back_packing, question, [0] * length)
                    self.refused(back_packing, question, [1] * length)


class Great(unittest.TestCase):
    def test_2000_numbers_of_1000_figures(self):
        numbers = [GREAT + place for place in range(2000)]
        choice = list(range(0, 2000, 2))
        goal = 1000 * GREAT + sum(choice)
        question = ("sums", numbers, goal)
        self.assertIs(True, sums_hold(question, choice))
        self.assertIs(False, sums_hold(("sums", numbers, goal + 1), choice))
        led = forth_evening(question, choice)
        self.assertEqual(choice + [2000], led)
        self.assertIs(True, halves_hold(turn_evening(question), led))
        self.assertEqual(choice, back_evening(question, led))
        self.assertEqual(choice, back_evening(question, list(range(1, 2000, 2)) + [2001]))

    def test_2000_numbers_packed(self):
        numbers = [GREAT + place // 2 for place in range(2000)]
        choice = list(range(0, 2000, 2))
        question = ("halves", numbers)
        self.assertIs(True, halves_hold(question, choice))
        led = forth_packing(question, choice)
        self.assertEqual([0, 1] * 1000, led)
        self.assertIs(True, boxes_hold(turn_packing(question), led))
        self.assertEqual(choice, back_packing(question, led))
        self.assertIs(True, boxes_hold(("boxes", numbers, GREAT + 999, GREAT), list(range(2000))))


if __name__ == "__main__":
    unittest.main()
