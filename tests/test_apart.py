"""Point 2: what is handed in stays as it is, what is given back is the asker's own, great formulas are answered."""

import copy
import unittest

from chainturn.cases import shows, tried
from chainturn.clauses import clauses_hold, right
from chainturn.colours import back_saying, colours_hold, forth_saying, turn_saying
from chainturn.covers import back_rest, back_ties, back_turning_over, forth_rest, forth_ties, forth_turning_over
from chainturn.covers import turn_rest, turn_ties, turn_turning_over
from chainturn.errors import ChainError
from chainturn.exact import back_columns, back_parting, exact_holds, forth_columns, forth_parting
from chainturn.exact import turn_columns, turn_parting
from chainturn.figures import back_figures, forth_figures, turn_figures
from chainturn.meeting import back_meeting, forth_meeting, turn_meeting
from chainturn.naming import back_naming, forth_naming, turn_naming
from chainturn.painting import back_painting, forth_painting, turn_painting
from chainturn.reading import read, shown
from chainturn.seats import back_seats, forth_seats, turn_seats
from chainturn.splitting import back_splitting, forth_splitting, turn_splitting
from chainturn.sums import back_evening, back_packing, boxes_hold, forth_evening, forth_packing, halves_hold, sums_hold
from chainturn.sums import turn_evening, turn_packing
from chainturn.webs import cover_holds, friends_hold, others, sets_hold, strangers_hold
from chainturn.wishes import parts, value, wish_holds
from helping import great_or

A = ("name", 0)
FORMULA = ("or", ("and", A, ("not", ("name", 1))), ("name", 2))

# Of each turning behind splitting: its three functions, a question, an answer that holds and one that does not.
TURNINGS = [
    (turn_meeting, forth_meeting, back_meeting, ("clauses", 2, [(1, 2), (-1, 2), (1, 1)]), [True, True], [True, False]),
    (turn_turning_over, forth_turning_over, back_turning_over, ("friends", 3, [(0, 1)], 2), [0, 1], [0, 2]),
    (turn_rest, forth_rest, back_rest, ("strangers", 3, [(0, 1)], 2), [1, 2], [0, 1]),
    (turn_ties, forth_ties, back_ties, ("cover", 3, [(0, 1), (1, 2)], 1), [1], [2]),
    (turn_seats, forth_seats, back_seats, ("strangers", 3, [(0, 1)], 2), [1, 2], [0, 1]),
    (turn_painting, forth_painting, back_painting, ("threes", 2, [(1, 2, 2), (-1, 2, 1)]), [True, False], [False] * 2),
    (turn_saying, forth_saying, back_saying, ("colours", 3, [(0, 1), (1, 2)]), [0, 1, 0], [0, 1, 1]),
    (turn_parting, forth_parting, back_parting, ("colours", 3, [(0, 1), (1, 2)]), [0, 1, 0], [0, 1, 1]),
    (turn_columns, forth_columns, back_columns, ("exact", 3, [(0, 1), (1,), (2,)]), [0, 2], [1, 2]),
    (turn_figures, forth_figures, back_figures, ("threes", 2, [(1, 2, 2), (-1, 2, 1)]), [True, False], [False] * 2),
    (turn_evening, forth_evening, back_evening, ("sums", [3, 5, 8], 8), [0, 1], [1, 2]),
    (turn_packing, forth_packing, back_packing, ("halves", [3, 5, 8]), [0, 1], [1, 2]),
]

# Of each of these a question of nothing, for which the empty list holds.
OF_NOTHING = [
    (turn_meeting, forth_meeting, back_meeting, ("clauses", 0, [])),
    (turn_turning_over, forth_turning_over, back_turning_over, ("friends", 0, [], 0)),
    (turn_rest, forth_rest, back_rest, ("strangers", 0, [], 0)),
    (turn_ties, forth_ties, back_ties, ("cover", 0, [], 0)),
    (turn_seats, forth_seats, back_seats, ("strangers", 0, [], 0)),
    (turn_painting, forth_painting, back_painting, ("threes", 0, [])),
    (turn_saying, forth_saying, back_saying, ("colours", 0, [])),
    (turn_parting, forth_parting, back_parting, ("colours", 0, [])),
    (turn_columns, forth_columns, back_columns, ("exact", 0, [])),
    (turn_figures, forth_figures, back_figures, ("threes", 0, [])),
    (turn_evening, forth_evening, back_evening, ("sums", [], 0)),
    (turn_packing, forth_packing, back_packing, ("halves", [])),
]


def chain(word, steps, turned_round):
    formula = A
    for _ in range(steps):
        formula = (word, A, formula) if turned_round else (word, formula, A)
    return formula


def nots(steps):
    formula = A
    for _ in range(steps):
        formula = ("not", formula)
    return formula


def lists_within(thing):
    found = [thing] if isinstance(thing, list) else []
    if isinstance(thing, (list, tuple)):
        for part in thing:
            found.extend(lists_within(part))
    return found


class HandedIn(unittest.TestCase):
    def unchanged(self, deed, *handed):
        before = copy.deepcopy(handed)
        try:
            deed(*handed)
        except ChainError:
            pass
        self.assertEqual(before, handed)

    def test_wishes(self):
        for truths in ([True, True, False], [False, False, False]):
            self.unchanged(value, FORMULA, truths)
            self.unchanged(wish_holds, ("wish", 3, FORMULA), truths)
        self.unchanged(wish_holds, ("wish", 3, FORMULA), [True])
        self.unchanged(wish_holds, ("wish", 3, FORMULA), [True] * 5)
        self.unchanged(parts, FORMULA)

    def test_reading(self):
        self.unchanged(shown, ["a", "b", "c"], FORMULA)

    def test_clauses(self):
        self.unchanged(right, -2, [True, False])
        for word in ("clauses", "threes"):
            question = (word, 2, [(1, 2, 2), (-1, 2, 2), (1, 2, 2)])
            for answer in ([], [True], [True, False], [False, True], [True, True, True]):
                self.unchanged(clauses_hold, question, answer)

    def test_turnings(self):
        wish = ("wish", 3, FORMULA)
        clauses = ("clauses", 3, [(1, -2, 3, 3, 2), (1,), (-2, 3)])
        for turn, forth, back, question in [(turn_naming, forth_naming, back_naming, wish),
                                            (turn_splitting, forth_splitting, back_splitting, clauses)]:
            led = forth(question, [True, True, True])
            self.unchanged(turn, question)
            self.unchanged(forth, question, [True, True, True])
            self.unchanged(forth, question, [False, True, False])
            self.unchanged(back, question, led)
            self.unchanged(back, question, led[:-1])

    def test_cases(self):
        for rows in ([(1, 2), (-1, 2)], [(1, 2), (-1, 2), (-2,)], []):
            self.unchanged(tried, ("clauses", 2, rows))
            self.unchanged(shows, ("clauses", 2, rows), ("name", 0, ("row", 1), ("row", 0)))
        self.unchanged(tried, ("clauses", 11, [(1, 2)]))

    def test_webs(self):
        for word, deed in [("friends", friends_hold), ("strangers", strangers_hold), ("cover", cover_holds),
                           ("sets", sets_hold)]:
            for answer in ([], [0], [0, 1], [0, 2], [1, 0], [-1], [3]):
                self.unchanged(deed, (word, 3, [(0, 1), (0, 2), (1, 2)], 1), answer)
        self.unchanged(others, 4, [(0, 1), (2, 3)])

    def test_colours(self):
        for answer in ([], [0, 1], [0, 1, 2], [0, 0, 1], [2, 1, 0, 1], [0, 1, 3], [-1, 1, 0]):
            self.unchanged(colours_hold, ("colours", 3, [(0, 1), (1, 2)]), answer)

    def test_exact_choices_and_sums(self):
        for answer in ([], [0], [0, 2], [0, 1], [2, 0], [0, 0], [-1], [0, 3], [0, 1, 0], [0, 0, 0, 0]):
            self.unchanged(exact_holds, ("exact", 3, [(0, 1), (1,), (2,)]), answer)
            self.unchanged(sums_hold, ("sums", [3, 5, 8], 11), answer)
            self.unchanged(halves_hold, ("halves", [3, 5, 8]), answer)
            self.unchanged(boxes_hold, ("boxes", [3, 5, 8], 11, 2), answer)

    def test_turnings_behind_splitting(self):
        for turn, forth, back, question, answer, wrong in TURNINGS:
            led = forth(question, answer)
            self.unchanged(turn, question)
            for handed in (answer, wrong, answer + answer, []):
                self.unchanged(forth, question, handed)
            for handed in (led, led[:-1], led + led, led[::-1], []):
                self.unchanged(back, question, handed)


class GivenBack(unittest.TestCase):
    def test_the_names_are_the_askers_own(self):
        first = read("b & a | b")
        kept = copy.deepcopy(first)
        second = read("b & a | b")
        self.assertIsNot(first[0], second[0])
        first[0].append("c")
        first[0][0] = "z"
        self.assertEqual(kept, second)
        self.assertEqual(kept, read("b & a | b"))
        self.assertEqual((["c"], ("wish", 1, A)), read("c"))

    def test_nothing_asked_later_changes_the_names(self):
        given = read("b & a")
        read("x & y & z")
        shown(given[0], given[1][2])
        self.assertEqual((["b", "a"], ("wish", 2, ("and", A, ("name", 1)))), given)

    def test_lists_changed_between_two_questions(self):
        truths = [True]
        self.assertIs(True, wish_holds(("wish", 1, A), truths))
        truths[0] = False
        self.assertIs(False, wish_holds(("wish", 1, A), truths))
        self.assertIs(False, value(A, truths))
        rows = [(1,)]
        question = ("clauses", 1, rows)
        self.assertIs(False, clauses_hold(question, truths))
        rows[0] = (-1,)
        self.assertIs(True, clauses_hold(question, truths))
        rows.append((1,))
        self.assertIs(False, clauses_hold(question, truths))
        names = ["a"]
        self.assertEqual("a", shown(names, A))
        names[0] = "b"
        self.assertEqual("b", shown(names, A))

    def own(self, deed, *handed):
        """The lists within what is given back are new ones, and the asker may do to them as they like."""
        first = deed(*handed)
        kept = copy.deepcopy(first)
        second = deed(*handed)
        self.assertEqual(kept, second)
        given = lists_within(first)
        self.assertNotEqual([], given)
        for one in given:
            for other in lists_within(list(handed)) + lists_within(second):
                self.assertIsNot(one, other)
            one.reverse()
            one.append("other")
        self.assertEqual(kept, second)
        self.assertEqual(kept, deed(*handed))

    def test_turnings(self):
        self.own(turn_naming, ("wish", 3, FORMULA))
        self.own(turn_naming, ("wish", 1, A))
        self.own(turn_splitting, ("clauses", 4, [(1, 2, 3), (1, 2, 3, 4)]))
        self.own(turn_splitting, ("clauses", 3, [(1, 2, 3)]))
        self.own(turn_splitting, ("clauses", 3, []))

    def test_answers_led_forth_and_back(self):
        self.own(forth_naming, ("wish", 3, FORMULA), [True, False, False])
        self.own(back_naming, ("wish", 3, FORMULA), [True, False, False, True, True])
        self.own(forth_splitting, ("clauses", 4, [(1, 2, 3, 4)]), [True] * 4)
        self.own(back_splitting, ("clauses", 4, [(1, 2, 3, 4)]), [True] * 5)
        # No new names: the list that is led on could be given back as it is.
        self.own(forth_naming, ("wish", 1, A), [True])
        self.own(back_naming, ("wish", 1, A), [True])
        self.own(forth_splitting, ("clauses", 2, [(1, 2)]), [True, False])
        self.own(back_splitting, ("clauses", 2, [(1, 2)]), [True, False])

    def test_answers_tried(self):
        for n, rows in [(0, []), (2, []), (2, [(1, 2), (-1,)]), (10, [(10, 1)])]:
            self.own(tried, ("clauses", n, rows))

    def test_other_pairs(self):
        self.own(others, 4, [(0, 1), (2, 3)])
        self.own(others, 3, [])
        self.own(others, 2, [(0, 1)])

    def test_turnings_behind_splitting(self):
        for turn, forth, back, question, answer, _ in TURNINGS:
            with self.subTest(turn=turn):
                self.own(turn, question)
                self.own(forth, question, answer)
                self.own(back, question, forth(question, answer))

    def test_questions_of_nothing(self):
        for turn, forth, back, question in OF_NOTHING:
            with self.subTest(turn=turn):
                self.own(turn, question)
                self.own(forth, question, [])
                self.own(back, question, forth(question, []))

    def test_either_side_and_a_goal_above_the_sum(self):
        self.own(turn_evening, ("sums", [3, 5, 8], 99))
        self.own(turn_evening, ("sums", [], 1))
        self.own(back_evening, ("sums", [3, 5, 8], 8), [0, 1, 3])
        self.own(back_evening, ("sums", [3, 5, 8], 8), [2, 4])

    def test_questions_changed_between_two_questions(self):
        for turn, forth, back, question, answer, _ in TURNINGS:
            with self.subTest(turn=turn):
                held = copy.deepcopy(question)
                told = (turn(question), forth(question, answer), back(question, forth(question, answer)))
                kept = copy.deepcopy(told)
                within = lists_within(question)[0]
                members = list(within)
                within.clear()
                self.assertEqual(turn(tuple([] if isinstance(part, list) else part for part in held)), turn(question))
                self.assertEqual(kept, told)
                within.extend(members)
                self.assertEqual(held, question)
                self.assertEqual(kept, (turn(question), forth(question, answer), back(question, kept[1])))

    def test_choices_changed_after_they_were_handed_in(self):
        for _, forth, back, question, answer, _ in TURNINGS:
            with self.subTest(forth=forth):
                handed = list(answer)
                led = forth(question, handed)
                kept = list(led)
                handed.clear()
                self.assertEqual(kept, led)
                answered = back(question, led)
                kept = list(answered)
                led.clear()
                self.assertEqual(kept, answered)

    def test_rows_changed_after_they_were_handed_in(self):
        rows = [(1, 2, 3)]
        question = ("clauses", 3, rows)
        turned = turn_splitting(question)
        rows[0] = (-1,)
        rows.append((2, 2))
        self.assertEqual(("threes", 3, [(1, 2, 3)]), turned)
        self.assertEqual(("threes", 3, [(-1, -1, -1), (2, 2, 2)]), turn_splitting(question))
        self.assertEqual([False, True, True], forth_splitting(question, [False, True, True]))
        self.assertIs(True, shows(("clauses", 3, rows + [()]), ("row", 2)))
        self.assertEqual([False, True], tried(question)[1][:2])
        rows.append(())
        self.assertEqual(("no", ("row", 2)), tried(question))
        rows.pop()
        self.assertEqual([False, True], tried(question)[1][:2])

    def test_answers_changed_after_they_were_handed_in(self):
        answer = [True]
        led = forth_naming(("wish", 1, A), answer)
        back = back_naming(("wish", 1, A), answer)
        answer[0] = False
        self.assertEqual(([True], [True]), (led, back))

    def test_webs_changed_between_two_questions(self):
        pairs = [(0, 1)]
        self.assertIs(True, friends_hold(("friends", 3, pairs, 2), [0, 1]))
        self.assertEqual([(0, 2), (1, 2)], others(3, pairs))
        pairs[0] = (1, 2)
        self.assertIs(False, friends_hold(("friends", 3, pairs, 2), [0, 1]))
        self.assertIs(True, strangers_hold(("strangers", 3, pairs, 2), [0, 1]))
        self.assertIs(False, cover_holds(("cover", 3, pairs, 2), [0]))
        self.assertEqual([(0, 1), (0, 2)], others(3, pairs))
        groups = [(0,)]
        self.assertIs(True, sets_hold(("sets", 1, groups, 1), [0]))
        groups[0] = ()
        self.assertIs(False, sets_hold(("sets", 1, groups, 1), [0]))

    def test_groups_and_numbers_changed_between_two_questions(self):
        groups = [(0,)]
        self.assertIs(True, exact_holds(("exact", 1, groups), [0]))
        groups[0] = ()
        self.assertIs(False, exact_holds(("exact", 1, groups), [0]))
        numbers = [3, 5, 8]
        self.assertIs(True, sums_hold(("sums", numbers, 8), [2]))
        self.assertIs(True, halves_hold(("halves", numbers), [2]))
        self.assertIs(True, boxes_hold(("boxes", numbers, 8, 2), [0, 0, 1]))
        numbers[2] = 9
        self.assertIs(False, sums_hold(("sums", numbers, 8), [2]))
        self.assertIs(False, halves_hold(("halves", numbers), [2]))
        self.assertIs(False, boxes_hold(("boxes", numbers, 8, 2), [0, 0, 1]))


class GreatFormulas(unittest.TestCase):
    def test_150_parts_and_somewhat_more(self):
        for many in (150, 180):
            names = many // 2
            formula = ("not", great_or(names))
            self.assertEqual(many, parts(formula))
            self.assertIs(True, value(formula, [False] * names))
            for k in range(names):
                truths = [False] * names
                truths[k] = True
                self.assertIs(False, wish_holds(("wish", names, formula), truths))
            self.assertEqual(names, shown(["a"] * names, formula).count("a"))

    def test_70_deep_and_somewhat_more(self):
        for steps in (69, 70, 71, 90):
            self.assertIs(steps % 2 == 0, value(nots(steps), [True]))
            self.assertEqual(steps + 1, parts(nots(steps)))
            self.assertEqual("!" * steps + "a", shown(["a"], nots(steps)))
            for word in ("and", "or"):
                for turned_round in (False, True):
                    formula = chain(word, steps, turned_round)
                    self.assertEqual(2 * steps + 1, parts(formula))
                    self.assertIs(True, wish_holds(("wish", 1, formula), [True]))
                    self.assertIs(False, wish_holds(("wish", 1, formula), [False]))
                    self.assertEqual(6 * steps + 1, len(shown(["a"], formula)))


if __name__ == "__main__":
    unittest.main()
