"""Point 2: what is handed in stays as it is, what is given back is the asker's own, great formulas are answered."""

import copy
import unittest

from chainturn.clauses import clauses_hold, right
from chainturn.reading import read, shown
from chainturn.wishes import parts, value, wish_holds

A = ("name", 0)
FORMULA = ("or", ("and", A, ("not", ("name", 1))), ("name", 2))


def chain(word, steps, turned_round):
    formula = A
    for _ in range(steps):
        formula = (word, A, formula) if turned_round else (word, formula, A)
    return formula


def nots(steps):
    formula = A
    for _ in range(steps):
        formula = ("not", formula)
    return formula


class HandedIn(unittest.TestCase):
    def unchanged(self, deed, *handed):
        before = copy.deepcopy(handed)
        deed(*handed)
        self.assertEqual(before, handed)

    def test_wishes(self):
        for truths in ([True, True, False], [False, False, False]):
            self.unchanged(value, FORMULA, truths)
            self.unchanged(wish_holds, ("wish", 3, FORMULA), truths)
        self.unchanged(wish_holds, ("wish", 3, FORMULA), [True])
        self.unchanged(wish_holds, ("wish", 3, FORMULA), [True] * 5)
        self.unchanged(parts, FORMULA)

    def test_reading(self):
        self.unchanged(shown, ["a", "b", "c"], FORMULA)

    def test_clauses(self):
        self.unchanged(right, -2, [True, False])
        for word in ("clauses", "threes"):
            question = (word, 2, [(1, 2, 2), (-1, 2, 2), (1, 2, 2)])
            for answer in ([], [True], [True, False], [False, True], [True, True, True]):
                self.unchanged(clauses_hold, question, answer)


class GivenBack(unittest.TestCase):
    def test_the_names_are_the_askers_own(self):
        first = read("b & a | b")
        kept = copy.deepcopy(first)
        second = read("b & a | b")
        self.assertIsNot(first[0], second[0])
        first[0].append("c")
        first[0][0] = "z"
        self.assertEqual(kept, second)
        self.assertEqual(kept, read("b & a | b"))
        self.assertEqual((["c"], ("wish", 1, A)), read("c"))

    def test_nothing_asked_later_changes_the_names(self):
        given = read("b & a")
        read("x & y & z")
        shown(given[0], given[1][2])
        self.assertEqual((["b", "a"], ("wish", 2, ("and", A, ("name", 1)))), given)

    def test_lists_changed_between_two_questions(self):
        truths = [True]
        self.assertIs(True, wish_holds(("wish", 1, A), truths))
        truths[0] = False
        self.assertIs(False, wish_holds(("wish", 1, A), truths))
        self.assertIs(False, value(A, truths))
        rows = [(1,)]
        question = ("clauses", 1, rows)
        self.assertIs(False, clauses_hold(question, truths))
        rows[0] = (-1,)
        self.assertIs(True, clauses_hold(question, truths))
        rows.append((1,))
        self.assertIs(False, clauses_hold(question, truths))
        names = ["a"]
        self.assertEqual("a", shown(names, A))
        names[0] = "b"
        self.assertEqual("b", shown(names, A))


class GreatFormulas(unittest.TestCase):
    def test_150_parts_and_somewhat_more(self):
        for many in (150, 180):
            row = [("name", k) for k in range(many // 2)]
            while len(row) > 1:
                row = [("or", *row[k:k + 2]) if k + 1 < len(row) else row[k] for k in range(0, len(row), 2)]
            formula = ("not", row[0])
            names = many // 2
            self.assertEqual(many, parts(formula))
            self.assertIs(True, value(formula, [False] * names))
            for k in range(names):
                truths = [False] * names
                truths[k] = True
                self.assertIs(False, wish_holds(("wish", names, formula), truths))
            self.assertEqual(names, shown(["a"] * names, formula).count("a"))

    def test_70_deep_and_somewhat_more(self):
        for steps in (69, 70, 71, 90):
            self.assertIs(steps % 2 == 0, value(nots(steps), [True]))
            self.assertEqual(steps + 1, parts(nots(steps)))
            self.assertEqual("!" * steps + "a", shown(["a"], nots(steps)))
            for word in ("and", "or"):
                for turned_round in (False, True):
                    formula = chain(word, steps, turned_round)
                    self.assertEqual(2 * steps + 1, parts(formula))
                    self.assertIs(True, wish_holds(("wish", 1, formula), [True]))
                    self.assertIs(False, wish_holds(("wish", 1, formula), [False]))
                    self.assertEqual(6 * steps + 1, len(shown(["a"], formula)))


if __name__ == "__main__":
    unittest.main()
