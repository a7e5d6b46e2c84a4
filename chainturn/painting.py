"""Threes turned to colours: a thing for each name and its not, and six things for each row."""

from chainturn.answers import refuse_unless
from chainturn.clauses import clauses_hold, right
from chainturn.colours import colours_hold


def turn_painting(question):
    n = question[1]
    rows = question[2]
    pairs = each_two(0)
    for k in range(n):
        # Its not stands straight behind the name.
        thing = thing_of(k + 1)
        pairs.extend([(2, thing), (2, thing + 1), (thing, thing + 1)])
    for j, row in enumerate(rows):
        pairs.extend(row_pairs(row, row_start(n, j)))
    return ("colours", row_start(n, len(rows)), sorted(pairs))


def forth_painting(question, answer):
    refuse_unless(clauses_hold(question, answer))
    numbers = [0, 1, 2]
    for truth in answer:
        numbers.extend([0, 1] if truth else [1, 0])
    for row in question[2]:
        numbers.extend(row_numbers(row, answer))
    return numbers


def back_painting(question, answer):
    refuse_unless(colours_hold(turn_painting(question), answer))
    return [answer[thing_of(k + 1)] == answer[0] for k in range(question[1])]


def thing_of(sign):
    return 2 * abs(sign) + (1 if sign > 0 else 2)


def row_start(n, j):
    return 3 + 2 * n + 6 * j


def row_pairs(row, p):
    # P, Q, R stand from p on, S, T, U from s on.
    s = p + 3
    ties = [(thing_of(row[0]), p), (thing_of(row[1]), p + 1), (p + 2, s), (thing_of(row[2]), s + 1)]
    return each_two(p) + each_two(s) + ties + [(1, s + 2), (2, s + 2)]


def each_two(first):
    return [(first, first + 1), (first, first + 2), (first + 1, first + 2)]


def row_numbers(row, truths):
    first = three_numbers(right(row[0], truths), right(row[1], truths))
    return first + three_numbers(first[2] == 0, right(row[2], truths))


def three_numbers(one, other):
    if one:
        return [1, 2, 0]
    return [2, 1, 0] if other else [0, 2, 1]
