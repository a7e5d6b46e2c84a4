"""What several of the tests need: all answers there could be, questions of many forms, and refusals."""

import itertools
import random
import unittest

from chainturn.errors import ChainError, NoAnswer


def all_truths(n):
    return [list(row) for row in itertools.product([False, True], repeat=n)]


def all_choices(many):
    """All rising lists of numbers from 0 on and below many."""
    return [list(row) for size in range(many + 1) for row in itertools.combinations(range(many), size)]


def clauses_are_true(rows, truths):
    """The words of points 7 and 8 once more, apart from the program."""
    return all(any(truths[s - 1] if s > 0 else not truths[-s - 1] for s in row) for row in rows)


def some_clauses(seed, many, names=4, most_rows=7, most_signs=5):
    """Clauses of many forms, the same ones for the same seed."""
    chance = random.Random(seed)
    for _ in range(many):
        n = chance.randint(1, names)
        signs = [s for k in range(1, n + 1) for s in (k, -k)]
        rows = []
        for _ in range(chance.randint(0, most_rows)):
            size = chance.choice([0] + list(range(1, most_signs + 1)) * 5)
            rows.append(tuple(chance.choice(signs) for _ in range(size)))
        yield ("clauses", n, rows)


def great_or(names):
    """An or of so many names, no deeper than it must be: twice as many parts, less one."""
    row = [("name", k) for k in range(names)]
    while len(row) > 1:
        row = [("or", *row[k:k + 2]) if k + 1 < len(row) else row[k] for k in range(0, len(row), 2)]
    return row[0]


class Refusing(unittest.TestCase):
    def refused(self, deed, question, answer):
        with self.subTest(deed=deed, question=question, answer=answer):
            with self.assertRaises(NoAnswer) as caught:
                deed(question, answer)
            self.assertIsInstance(caught.exception, ChainError)
