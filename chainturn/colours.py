"""Colours: which lists of them hold, and how they are turned to clauses."""

from chainturn.answers import refuse_unless
from chainturn.clauses import clauses_hold


def colours_hold(question, answer):
    # Length and numbers come first: by a list that is too short some things have no number to look at.
    if len(answer) != question[1] or not all([0 <= number <= 2 for number in answer]):
        return False
    return all([answer[v] != answer[w] for v, w in question[2]])


def turn_saying(question):
    rows = [(3 * v + 1, 3 * v + 2, 3 * v + 3) for v in range(question[1])]
    for v, w in question[2]:
        rows.extend([(-(3 * v + c + 1), -(3 * w + c + 1)) for c in range(3)])
    return ("clauses", 3 * question[1], rows)


def forth_saying(question, answer):
    refuse_unless(colours_hold(question, answer))
    return [answer[name // 3] == name % 3 for name in range(3 * question[1])]


def back_saying(question, answer):
    refuse_unless(clauses_hold(turn_saying(question), answer))
    return [answer[3 * v:3 * v + 3].index(True) for v in range(question[1])]
