"""What several of the tests need: all answers there could be, questions of many forms, and refusals."""

import itertools
import random
import unittest

from chainturn.errors import ChainError, NoAnswer


def all_truths(n):
    return [list(row) for row in itertools.product([False, True], repeat=n)]


def all_choices(many):
    """All rising lists of numbers from 0 on and below many."""
    return [list(row) for size in range(many + 1) for row in itertools.combinations(range(many), size)]


def no_choices(many):
    """Short lists of numbers that are no choice among so many: not rising, below 0, too great."""
    choices = all_choices(many)
    rows = [list(row) for size in range(1, 4) for row in itertools.product(range(-2, many + 2), repeat=size)]
    return [row for row in rows if row not in choices] + [[10 ** 30], [-10 ** 30], list(range(many + 1)), [0] * 50]


def all_webs(n):
    """The sorted pairs of every web of n people."""
    pairs = list(itertools.combinations(range(n), 2))
    return [[pairs[e] for e in chosen] for chosen in all_choices(len(pairs))]


def all_webs_up_to(most):
    """Every web of at most so many people or things, with their number."""
    return [(n, pairs) for n in range(most + 1) for pairs in all_webs(n)]


def all_colours(n):
    return [list(row) for row in itertools.product(range(3), repeat=n)]


def all_groups(n, many):
    """Every list of so many groups of n things."""
    forms = [tuple(choice) for choice in all_choices(n)]
    return [list(groups) for groups in itertools.product(forms, repeat=many)]


def is_rising(choice, many):
    return list(choice) == sorted(set(choice) & set(range(many)))


def are_friends(n, pairs, k, choice):
    """Here and below the words of point 12 once more, apart from the program."""
    return len(choice) >= k and all(two in pairs for two in itertools.combinations(choice, 2))


def are_strangers(n, pairs, k, choice):
    return len(choice) >= k and not any(two in pairs for two in itertools.combinations(choice, 2))


def is_cover(n, pairs, k, choice):
    return len(choice) <= k and all(i in choice or j in choice for i, j in pairs)


def are_sets(n, groups, k, choice):
    return len(choice) <= k and set(range(n)) == set(thing for g in choice for thing in groups[g])


def clauses_are_true(rows, truths):
    """The words of points 7 and 8 once more, apart from the program."""
    return all(any(truths[s - 1] if s > 0 else not truths[-s - 1] for s in row) for row in rows)


def are_truths(n, rows, truths):
    return len(truths) == n and clauses_are_true(rows, truths)


def are_colours(n, pairs, numbers):
    """The words of point 18 once more, apart from the program."""
    return (len(numbers) == n and all(number in (0, 1, 2) for number in numbers)
            and not any(numbers[i] == numbers[j] for i, j in pairs))


def is_exact(n, groups, choice):
    """Here and below the words of point 21 once more, apart from the program."""
    if not is_rising(choice, len(groups)):
        return False
    return sorted(thing for number in choice for thing in groups[number]) == list(range(n))


def come_to(numbers, goal, choice):
    return is_rising(choice, len(numbers)) and goal - sum(numbers[place] for place in choice) == 0


def are_halves(numbers, choice):
    if not is_rising(choice, len(numbers)):
        return False
    sides = [[number for place, number in enumerate(numbers) if (place in choice) is side] for side in (True, False)]
    return sum(sides[0]) == sum(sides[1])


def are_boxes(numbers, size, many, boxes):
    if len(boxes) != len(numbers) or any(box not in range(many) for box in boxes):
        return False
    return not any(sum(number for number, other in zip(numbers, boxes) if other == box) > size for box in boxes)


def some_clauses(seed, many, names=4, most_rows=7, most_signs=5):
    """Clauses of many forms, the same ones for the same seed."""
    chance = random.Random(seed)
    for _ in range(many):
        n = chance.randint(1, names)
        signs = [s for k in range(1, n + 1) for s in (k, -k)]
        rows = []
        for _ in range(chance.randint(0, most_rows)):
            size = chance.choice([0] + list(range(1, most_signs + 1)) * 5)
            rows.append(tuple(chance.choice(signs) for _ in range(size)))
        yield ("clauses", n, rows)


def all_threes(names, many):
    """Every threes of so many names and so many rows."""
    signs = [s for k in range(1, names + 1) for s in (k, -k)]
    rows = list(itertools.product(signs, repeat=3))
    return [("threes", names, list(chosen)) for chosen in itertools.product(rows, repeat=many)]


def some_threes(seed, many, names=4, rows=5):
    """Threes of so many names and rows, the same ones for the same seed."""
    chance = random.Random(seed)
    signs = [s for k in range(1, names + 1) for s in (k, -k)]
    for _ in range(many):
        yield ("threes", names, [tuple(chance.choice(signs) for _ in range(3)) for _ in range(rows)])


def great_or(names):
    """An or of so many names, no deeper than it must be: twice as many parts, less one."""
    row = [("name", k) for k in range(names)]
    while len(row) > 1:
        row = [("or", *row[k:k + 2]) if k + 1 < len(row) else row[k] for k in range(0, len(row), 2)]
    return row[0]


class Refusing(unittest.TestCase):
    def refused(self, deed, question, answer):
        with self.subTest(deed=deed, question=question, answer=answer):
            with self.assertRaises(NoAnswer) as caught:
                deed(question, answer)
            self.assertIsInstance(caught.exception, ChainError)


class Holding(unittest.TestCase):
    def holds(self, deed, question, answers):
        for answer in answers:
            with self.subTest(question=question, answer=answer):
                self.assertIs(True, deed(question, answer))

    def fails(self, deed, question, answers):
        for answer in answers:
            with self.subTest(question=question, answer=answer):
                self.assertIs(False, deed(question, answer))


class LeadingOn(Refusing):
    def led_on(self, deeds, question, holds, turned_holds, answers, turned_answers):
        """Points 1 and 32: forth and then back is the answer itself, all that holds is led back, all else refused.

        The two words tell apart from the program what holds for the question, and for the turned one.
        """
        turn, forth, back = deeds
        turned = turn(question)
        held = [answer for answer in answers if holds(*question[1:], answer)]
        for answer in held:
            led = forth(question, answer)
            self.members_are(int, led)
            self.assertTrue(turned_holds(*turned[1:], led), (question, answer, led))
            self.assertEqual(answer, back(question, led))
        turned_held = [answer for answer in turned_answers if turned_holds(*turned[1:], answer)]
        for answer in turned_held:
            given = back(question, answer)
            self.members_are(bool if question[0] == "threes" else int, given)
            self.assertTrue(holds(*question[1:], given), (question, answer, given))
        self.assertEqual(held == [], turned_held == [], question)
        for deed, tried, found in [(forth, answers, held), (back, turned_answers, turned_held)]:
            for answer in [answer for answer in tried if answer not in found]:
                self.refused(deed, question, answer)

    def wrong_truths_are_refused(self, forth):
        """Truths of threes: wrong ones, and lists that are too short or too long."""
        self.refused(forth, ("threes", 1, [(1, 1, 1)]), [False])
        self.refused(forth, ("threes", 3, [(1, 2, 3)]), [False, False, False])
        self.refused(forth, ("threes", 3, [(1, 2, 3), (-1, -2, -3)]), [True, True, True])
        for question in [("threes", 0, []), ("threes", 1, []), ("threes", 1, [(1, 1, 1)]), ("threes", 2, [(1, -2, 1)])]:
            for truths in [truths for length in range(6) if length != question[1] for truths in all_truths(length)]:
                self.refused(forth, question, truths)

    def members_are(self, kind, given):
        self.assertIs(list, type(given))
        self.assertTrue(all(type(member) is kind for member in given), given)


class ClausesGiven(unittest.TestCase):
    def clauses_are_told(self, turned):
        """Clauses of the very kinds and forms of point 7."""
        self.assertEqual((tuple, 3, "clauses"), (type(turned), len(turned), turned[0]))
        self.assertEqual((int, list), (type(turned[1]), type(turned[2])))
        for row in turned[2]:
            self.assertIs(tuple, type(row))
            self.assertTrue(all(type(sign) is int and 0 < abs(sign) <= turned[1] for sign in row))
