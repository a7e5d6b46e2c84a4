"""Clauses turned to threes: long rows are split, short ones filled up."""

from chainturn.answers import refuse_unless
from chainturn.clauses import clauses_hold, right


def turn_splitting(question):
    names = question[1]
    rows = []
    for row in question[2]:
        rows.extend(threes_of(row, names))
        names = names + new_names(row)
    return ("threes", names, rows)


def forth_splitting(question, answer):
    refuse_unless(clauses_hold(question, answer))
    truths = list(answer)
    for row in question[2]:
        truths.extend(new_truths(row, answer))
    return truths


def back_splitting(question, answer):
    refuse_unless(clauses_hold(turn_splitting(question), answer))
    return answer[:question[1]]


def new_names(row):
    return 1 if len(row) == 0 else max(0, len(row) - 3)


def threes_of(row, first):
    if len(row) == 0:
        z = first + 1
        return [(z, z, z), (-z, -z, -z)]
    if len(row) > 3:
        return chain_of(row, first)
    return [row + (row[-1],) * (3 - len(row))]


def chain_of(row, first):
    last = first + new_names(row)
    rows = [(row[0], row[1], first + 1)]
    for y in range(first + 1, last):
        rows.append((-y, row[y - first + 1], y + 1))
    rows.append((-last, row[-2], row[-1]))
    return rows


# A row without signs has a new name too, but no answer holds for it, so none is ever led forth.
def new_truths(row, truths):
    told = []
    none_right = True
    for sign in row[:-2]:
        none_right = none_right and not right(sign, truths)
        told.append(none_right)
    # No new name speaks of the first sign alone.
    return told[1:]
