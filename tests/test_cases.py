"""Point 11: clauses and threes tried, and the trees that show that there is no answer."""

import itertools
import unittest

from chainturn.cases import shows, tried
from chainturn.clauses import clauses_hold
from chainturn.errors import ChainError, TooMany
from chainturn.splitting import turn_splitting
from helping import all_truths, clauses_are_true, some_clauses


def tree_is_good(question, tree, taken):
    """The words of point 11 once more, way by way."""
    if tree[0] == "row":
        if not 0 <= tree[1] < len(question[2]):
            return False
        return all(abs(s) - 1 in taken and taken[abs(s) - 1] != (s > 0) for s in question[2][tree[1]])
    k = tree[1]
    if not 0 <= k < question[1] or k in taken:
        return False
    return (tree_is_good(question, tree[2], {**taken, k: True})
            and tree_is_good(question, tree[3], {**taken, k: False}))


def all_trees(names, rows, depth):
    """All trees that are no deeper, of numbers from -1 to one too great."""
    yield from [("row", j) for j in range(-1, rows + 1)]
    if depth > 0:
        inner = list(all_trees(names, rows, depth - 1))
        for k in range(-1, names + 1):
            for one, other in itertools.product(inner, inner):
                yield ("name", k, one, other)


def mice(many, holes):
    """Each mouse has a hole, and no hole two of them."""
    rows = [tuple(m * holes + h + 1 for h in range(holes)) for m in range(many)]
    for h in range(holes):
        for one, other in itertools.combinations(range(many), 2):
            rows.append((-(one * holes + h + 1), -(other * holes + h + 1)))
    return ("clauses", many * holes, rows)


def all_forbidden(n):
    """A row against each list of n truths."""
    return [tuple(-(k + 1) if truth else k + 1 for k, truth in enumerate(truths)) for truths in all_truths(n)]


class Tried(unittest.TestCase):
    def yes(self, question):
        outcome = tried(question)
        self.assertIs(tuple, type(outcome))
        self.assertEqual(2, len(outcome))
        self.assertEqual("yes", outcome[0], question)
        self.assertIs(list, type(outcome[1]))
        self.assertEqual(question[1], len(outcome[1]))
        self.assertTrue(all(type(truth) is bool for truth in outcome[1]))
        self.assertTrue(clauses_are_true(question[2], outcome[1]), question)
        self.assertIs(True, clauses_hold(question, outcome[1]))

    def no(self, question):
        outcome = tried(question)
        self.assertIs(tuple, type(outcome))
        self.assertEqual(2, len(outcome))
        self.assertEqual("no", outcome[0], question)
        self.form(outcome[1])
        self.assertTrue(tree_is_good(question, outcome[1], {}), question)
        self.assertIs(True, shows(question, outcome[1]))

    def form(self, tree):
        self.assertIs(tuple, type(tree))
        self.assertIs(int, type(tree[1]))
        if tree[0] == "row":
            self.assertEqual(2, len(tree))
        else:
            self.assertEqual(("name", 4), (tree[0], len(tree)))
            self.form(tree[2])
            self.form(tree[3])

    def check(self, question):
        if any(clauses_are_true(question[2], truths) for truths in all_truths(question[1])):
            self.yes(question)
        else:
            self.no(question)

    def test_no_names(self):
        self.assertEqual(("yes", []), tried(("clauses", 0, [])))
        self.assertEqual(("yes", []), tried(("threes", 0, [])))
        self.assertEqual(("no", ("row", 0)), tried(("clauses", 0, [()])))
        self.no(("clauses", 0, [(), ()]))

    def test_no_rows(self):
        for word in ("clauses", "threes"):
            for n in range(11):
                self.yes((word, n, []))

    def test_a_row_without_signs(self):
        self.no(("clauses", 1, [()]))
        self.no(("clauses", 3, [(1,), (2, 3), ()]))
        self.no(("clauses", 10, [(k + 1,) for k in range(10)] + [()]))

    def test_one_answer_alone(self):
        for truths in all_truths(4):
            rows = [(k + 1 if truth else -(k + 1),) for k, truth in enumerate(truths)]
            self.assertEqual(("yes", truths), tried(("clauses", 4, rows)))
            rows = [row for row in all_forbidden(4) if clauses_are_true([row], truths)]
            self.assertEqual(("yes", truths), tried(("clauses", 4, rows)))
            rows = rows[::-1]
            self.assertEqual(("yes", truths), tried(("clauses", 4, rows)))

    def test_clauses_that_have_none(self):
        self.no(("clauses", 1, [(1,), (-1,)]))
        self.no(("clauses", 2, [(1, 2), (1, -2), (-1, 2), (-1, -2)]))
        self.no(("clauses", 3, [(1, 1), (-1, 2, -1), (-2, 3), (-3, -3)]))
        for n in range(1, 7):
            self.no(("clauses", n, all_forbidden(n)))

    def test_threes(self):
        self.yes(("threes", 3, [(1, 2, 3), (-1, -2, -3), (1, -2, 3)]))
        self.no(("threes", 1, [(1, 1, 1), (-1, -1, -1)]))
        self.no(("threes", 3, all_forbidden(3)))
        self.yes(("threes", 3, all_forbidden(3)[1:]))

    def test_mice_and_holes(self):
        self.yes(mice(2, 2))
        self.no(mice(2, 1))
        self.no(mice(3, 2))
        self.yes(mice(3, 3))
        self.no(mice(5, 2))

    def test_clauses_of_many_forms(self):
        answers = {"yes": 0, "no": 0}
        for question in some_clauses(14, 1500, names=5, most_rows=14, most_signs=3):
            self.check(question)
            answers[tried(question)[0]] += 1
        self.assertGreater(min(answers.values()), 300)

    def test_threes_of_many_forms(self):
        for question in some_clauses(15, 300, most_rows=5, most_signs=4):
            turned = turn_splitting(question)
            if turned[1] <= 10:
                self.check(turned)

    def test_10_names_are_tried(self):
        self.yes(("clauses", 10, [(k + 1,) for k in range(10)]))
        self.yes(("clauses", 10, all_forbidden(10)[:-1]))
        self.no(("clauses", 10, all_forbidden(10)))
        self.no(("clauses", 10, [(10,), (-10,)]))
        self.no(("threes", 10, [(8, 9, 10)[:2] + (s,) for s in (10, -10)] + [(-8, -8, -8), (-9, -9, -9)]))

    def test_2000_rows(self):
        rows = [row for row in itertools.product([s for k in range(1, 11) for s in (k, -k)], repeat=3)][::4]
        self.assertEqual(2000, len(rows))
        for word in ("clauses", "threes"):
            self.check((word, 10, rows))
        self.yes(("threes", 10, [(10, 10, 10)] * 2000))
        self.no(("threes", 10, [(10, 10, 10)] * 1999 + [(-10, -10, -10)]))

    def test_11_names_are_refused_whatever_the_rows(self):
        for n in (11, 12, 100, 2000):
            for word in ("clauses", "threes"):
                for rows in ([], [(1, 1, 1)], [(1, 1, 1), (-1, -1, -1)], [(n, -n, 1)]):
                    self.refused((word, n, rows))
            self.refused(("clauses", n, [()]))
            self.refused(("clauses", n, [(1,)]))
        self.refused(("clauses", 11, [(k + 1,) for k in range(11)]))

    def refused(self, question):
        with self.subTest(question=question[:2]):
            with self.assertRaises(TooMany) as caught:
                tried(question)
            self.assertIsInstance(caught.exception, ChainError)


class Shows(unittest.TestCase):
    def good(self, question, tree):
        with self.subTest(question=question, tree=tree):
            self.assertIs(True, shows(question, tree))

    def bad(self, question, tree):
        with self.subTest(question=question, tree=tree):
            self.assertIs(False, shows(question, tree))

    def test_a_row_without_signs_shows_it_at_once(self):
        self.good(("clauses", 0, [()]), ("row", 0))
        self.good(("clauses", 3, [(1,), ()]), ("row", 1))
        self.good(("clauses", 2, [(1,), ()]), ("name", 0, ("row", 1), ("row", 1)))
        self.good(("clauses", 2, [(1,), ()]), ("name", 1, ("row", 1), ("name", 0, ("row", 1), ("row", 0))))

    def test_the_first_tree_is_for_true(self):
        question = ("clauses", 1, [(1,), (-1,)])
        self.good(question, ("name", 0, ("row", 1), ("row", 0)))
        self.bad(question, ("name", 0, ("row", 0), ("row", 1)))

    def test_the_tree_of_one_row_on_both_sides(self):
        question = ("clauses", 1, [(1,), (-1,)])
        self.bad(question, ("name", 0, ("row", 0), ("row", 0)))
        self.bad(question, ("name", 0, ("row", 1), ("row", 1)))

    def test_a_rows_number_at_the_top_where_the_row_is_not_empty(self):
        question = ("clauses", 1, [(1,), (-1,), ()])
        self.bad(question, ("row", 0))
        self.bad(question, ("row", 1))
        self.good(question, ("row", 2))
        self.bad(("clauses", 1, [(1, -1)]), ("row", 0))

    def test_a_name_met_twice_on_a_way_down(self):
        question = ("clauses", 2, [(1,), (-1,), (2,)])
        one = ("name", 0, ("row", 1), ("row", 0))
        self.good(question, one)
        self.bad(question, ("name", 0, one, ("row", 0)))
        self.bad(question, ("name", 0, ("row", 1), one))
        self.bad(question, ("name", 0, ("name", 0, ("row", 1), ("row", 1)), ("row", 0)))
        self.bad(question, ("name", 0, ("name", 1, one, one), ("row", 0)))
        self.bad(question, ("name", 0, ("name", 1, ("row", 1), one), ("row", 0)))
        self.bad(("clauses", 1, [()]), ("name", 0, ("name", 0, ("row", 0), ("row", 0)), ("row", 0)))
        self.bad(("clauses", 1, [()]), ("name", 0, ("row", 0), ("name", 0, ("row", 0), ("row", 0))))

    def test_a_name_met_on_two_ways(self):
        question = ("clauses", 2, [(1, 2), (1, -2), (-1, 2), (-1, -2)])
        self.good(question, ("name", 0, ("name", 1, ("row", 3), ("row", 2)), ("name", 1, ("row", 1), ("row", 0))))
        self.good(question, ("name", 1, ("name", 0, ("row", 3), ("row", 1)), ("name", 0, ("row", 2), ("row", 0))))
        self.bad(question, ("name", 0, ("name", 1, ("row", 3), ("row", 2)), ("name", 1, ("row", 0), ("row", 1))))
        self.bad(question, ("name", 0, ("name", 1, ("row", 2), ("row", 3)), ("name", 1, ("row", 1), ("row", 0))))

    def test_what_was_taken_on_another_way_counts_for_nothing(self):
        question = ("clauses", 2, [(1, 2), (1, -2), (-1,), (-2,)])
        self.bad(question, ("name", 0, ("name", 1, ("row", 2), ("row", 2)), ("row", 0)))
        self.bad(question, ("name", 0, ("name", 1, ("row", 2), ("row", 2)), ("row", 1)))
        self.bad(question, ("name", 0, ("row", 2), ("row", 2)))
        self.good(question, ("name", 0, ("row", 2), ("name", 1, ("row", 3), ("row", 0))))
        deeper = ("clauses", 3, [(-1, -2), (-1, 2), (1, 3), (1, -3), (-2,), (2,)])
        self.good(deeper, ("name", 0, ("name", 1, ("row", 0), ("row", 1)), ("name", 2, ("row", 3), ("row", 2))))
        self.bad(deeper, ("name", 0, ("name", 1, ("row", 0), ("row", 1)), ("row", 4)))
        self.bad(deeper, ("name", 0, ("name", 1, ("row", 0), ("row", 1)), ("row", 5)))

    def test_a_sign_of_a_name_that_was_not_met(self):
        question = ("clauses", 2, [(1, 2), (-1,), (1, -2)])
        self.bad(question, ("name", 0, ("row", 1), ("row", 0)))
        self.bad(question, ("name", 0, ("row", 1), ("row", 2)))
        self.good(question, ("name", 0, ("row", 1), ("name", 1, ("row", 2), ("row", 0))))

    def test_a_sign_that_is_right(self):
        question = ("clauses", 2, [(1, 2), (-1,), (1, -2)])
        self.bad(question, ("name", 0, ("row", 1), ("name", 1, ("row", 0), ("row", 2))))
        self.bad(("clauses", 1, [(1, -1)]), ("name", 0, ("row", 0), ("row", 0)))
        self.bad(("clauses", 1, [(-1, 1, -1)]), ("name", 0, ("row", 0), ("row", 0)))

    def test_numbers_that_are_no_names(self):
        for k in (-1, -2, -10 ** 30, 2, 3, 10 ** 30):
            self.bad(("clauses", 2, [(1,), ()]), ("name", k, ("row", 1), ("row", 1)))
            self.bad(("clauses", 2, [(1,), ()]), ("name", 0, ("name", k, ("row", 1), ("row", 1)), ("row", 0)))
            self.bad(("clauses", 2, [(1,), ()]), ("name", 0, ("row", 1), ("name", k, ("row", 1), ("row", 1))))
        self.bad(("clauses", 0, [()]), ("name", 0, ("row", 0), ("row", 0)))
        self.bad(("clauses", 2, [(2,), (-2,)]), ("name", -1, ("row", 1), ("row", 0)))

    def test_numbers_that_are_no_rows(self):
        for j in (-1, -2, -10 ** 30, 2, 3, 10 ** 30):
            self.bad(("clauses", 1, [(), ()]), ("row", j))
            self.bad(("clauses", 1, [(), ()]), ("name", 0, ("row", j), ("row", 0)))
            self.bad(("clauses", 1, [(), ()]), ("name", 0, ("row", 0), ("row", j)))
        for j in (-1, 0, 1):
            self.bad(("clauses", 0, []), ("row", j))
            self.bad(("clauses", 1, []), ("name", 0, ("row", j), ("row", j)))

    def test_threes(self):
        question = ("threes", 1, [(1, 1, 1), (-1, -1, -1)])
        self.good(question, ("name", 0, ("row", 1), ("row", 0)))
        self.bad(question, ("name", 0, ("row", 0), ("row", 1)))

    def test_no_tree_where_there_is_an_answer(self):
        for rows in ([(1,)], [(1, 2)], [(1, -2), (2,)], []):
            for tree in all_trees(2, len(rows), 2):
                if shows(("clauses", 2, rows), tree):
                    self.fail(f"{tree} for {rows}")

    def test_all_small_trees(self):
        found = 0
        for question in [
            ("clauses", 2, [(1,), (-1,)]), ("clauses", 2, [(1, 2), (-1,), (-2,)]), ("clauses", 1, [()]),
            ("clauses", 2, [(2, 1), (), (-2, -2)]), ("clauses", 2, [(1, -1), (2,), (-2,)]),
        ]:
            for tree in all_trees(question[1], len(question[2]), 2):
                told = tree_is_good(question, tree, {})
                found = found + told
                if shows(question, tree) is not told:
                    self.fail(f"{told} expected: {question}, {tree}")
        self.assertGreater(found, 40)

    def test_more_than_10_names(self):
        question = ("clauses", 50, [(50,), (1, 2), (-50,)])
        self.good(question, ("name", 49, ("row", 2), ("row", 0)))
        self.bad(question, ("name", 49, ("row", 0), ("row", 2)))

    def test_trees_as_deep_as_there_are_names(self):
        n = 2000
        # The first name is true, each name brings the next one, and the last one is not true.
        question = ("clauses", n, [(1,)] + [(-k, k + 1) for k in range(1, n)] + [(-n,)])
        good = ("row", n)
        bad = ("row", n - 1)
        for k in reversed(range(n)):
            good = ("name", k, good, ("row", k))
            bad = ("name", k, bad, ("row", k))
        self.assertIs(True, shows(question, good))
        self.assertIs(False, shows(question, bad))
        good = ("row", 0)
        bad = ("row", 1)
        for k in range(n):
            good = ("name", k, ("row", k + 1), good)
            bad = ("name", k, ("row", k + 1), bad)
        self.assertIs(True, shows(question, good))
        self.assertIs(False, shows(question, bad))
        self.assertIs(False, shows(question, ("name", n - 1, ("row", n), good)))


if __name__ == "__main__":
    unittest.main()
