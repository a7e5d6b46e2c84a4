"""What several of the tests need: all answers there could be, questions of many forms, and refusals."""

import itertools
import random
import unittest

from chainturn.errors import ChainError, NoAnswer


def all_truths(n):
    return [list(row) for row in itertools.product([False, True], repeat=n)]


def all_choices(many):
    """All rising lists of numbers from 0 on and below many."""
    return [list(row) for size in range(many + 1) for row in itertools.combinations(range(many), size)]


def no_choices(many):
    """Short lists of numbers that are no choice among so many: not rising, below 0, too great."""
    choices = all_choices(many)
    rows = [list(row) for size in range(1, 4) for row in itertools.product(range(-2, many + 2), repeat=size)]
    return [row for row in rows if row not in choices] + [[10 ** 30], [-10 ** 30], list(range(many + 1)), [0] * 50]


def all_webs(n):
    """The sorted pairs of every web of n people."""
    pairs = list(itertools.combinations(range(n), 2))
    return [[pairs[e] for e in chosen] for chosen in all_choices(len(pairs))]


def are_friends(n, pairs, k, choice):
    """Here and below the words of point 12 once more, apart from the program."""
    return len(choice) >= k and all(two in pairs for two in itertools.combinations(choice, 2))


def are_strangers(n, pairs, k, choice):
    return len(choice) >= k and not any(two in pairs for two in itertools.combinations(choice, 2))


def is_cover(n, pairs, k, choice):
    return len(choice) <= k and all(i in choice or j in choice for i, j in pairs)


def are_sets(n, groups, k, choice):
    return len(choice) <= k and set(range(n)) == set(thing for g in choice for thing in groups[g])


def clauses_are_true(rows, truths):
    """The words of points 7 and 8 once more, apart from the program."""
    return all(any(truths[s - 1] if s > 0 else not truths[-s - 1] for s in row) for row in rows)


def some_clauses(seed, many, names=4, most_rows=7, most_signs=5):
    """Clauses of many forms, the same ones for the same seed."""
    chance = random.Random(seed)
    for _ in range(many):
        n = chance.randint(1, names)
        signs = [s for k in range(1, n + 1) for s in (k, -k)]
        rows = []
        for _ in range(chance.randint(0, most_rows)):
            size = chance.choice([0] + list(range(1, most_signs + 1)) * 5)
            rows.append(tuple(chance.choice(signs) for _ in range(size)))
        yield ("clauses", n, rows)


def great_or(names):
    """An or of so many names, no deeper than it must be: twice as many parts, less one."""
    row = [("name", k) for k in range(names)]
    while len(row) > 1:
        row = [("or", *row[k:k + 2]) if k + 1 < len(row) else row[k] for k in range(0, len(row), 2)]
    return row[0]


class Refusing(unittest.TestCase):
    def refused(self, deed, question, answer):
        with self.subTest(deed=deed, question=question, answer=answer):
            with self.assertRaises(NoAnswer) as caught:
                deed(question, answer)
            self.assertIsInstance(caught.exception, ChainError)


class ClausesGiven(unittest.TestCase):
    def clauses_are_told(self, turned):
        """Clauses of the very kinds and forms of point 7."""
        self.assertEqual((tuple, 3, "clauses"), (type(turned), len(turned), turned[0]))
        self.assertEqual((int, list), (type(turned[1]), type(turned[2])))
        for row in turned[2]:
            self.assertIs(tuple, type(row))
            self.assertTrue(all(type(sign) is int and 0 < abs(sign) <= turned[1] for sign in row))
