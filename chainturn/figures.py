"""Threes turned to sums: a figure of the numbers for each row, and one for each name."""

from chainturn.answers import refuse_unless
from chainturn.clauses import clauses_hold, right
from chainturn.sums import powers, sums_hold

# By how many unlike signs of a row are right: which of its two numbers fill its figure up to 4.
FILLING = {1: (0, 1), 2: (1,), 3: (0,)}


def turn_figures(question):
    rows = question[2]
    m = len(rows)
    tens = powers(10, m + question[1])
    numbers = []
    for ten in tens[m:]:
        numbers.extend([ten, ten])
    for j, row in enumerate(rows):
        for sign in sorted(set(row)):
            numbers[place_of(sign)] = numbers[place_of(sign)] + tens[j]
    for ten in tens[:m]:
        numbers.extend([ten, 2 * ten])
    return ("sums", numbers, sum(tens[m:]) + 4 * sum(tens[:m]))


def forth_figures(question, answer):
    refuse_unless(clauses_hold(question, answer))
    choice = [2 * k if truth else 2 * k + 1 for k, truth in enumerate(answer)]
    for j, row in enumerate(question[2]):
        start = 2 * question[1] + 2 * j
        choice.extend([start + place for place in FILLING[unlike_right(row, answer)]])
    return choice


def back_figures(question, answer):
    refuse_unless(sums_hold(turn_figures(question), answer))
    chosen = dict([(place, True) for place in answer])
    return [2 * k in chosen for k in range(question[1])]


def place_of(sign):
    return 2 * sign - 2 if sign > 0 else -2 * sign - 1


def unlike_right(row, truths):
    return len(set([sign for sign in row if right(sign, truths)]))
