"""Clauses and threes of few names tried, and the trees that show that there is no answer."""

from chainturn.errors import TooMany

MOST_NAMES = 10


def tried(question):
    names = question[1]
    if names > MOST_NAMES:
        raise TooMany("clauses of so many names are not tried")
    return tried_on(list(enumerate(question[2])), [False] * names)


# Left are the rows that have no right sign yet: the number of each, and those of its signs that are not wrong yet.
def tried_on(left, truths):
    if len(left) == 0:
        return ("yes", truths)
    # The shortest one is taken, so that a lost row is seen at once and trees stay small.
    shortest = min(left, key=lambda entry: len(entry[1]))
    if len(shortest[1]) == 0:
        return ("no", ("row", shortest[0]))
    k = abs(shortest[1][0]) - 1
    trees = []
    for truth in (True, False):
        sign = k + 1 if truth else -(k + 1)
        outcome = tried_on(left_by(left, sign), truths[:k] + [truth] + truths[k + 1:])
        if outcome[0] == "yes":
            return outcome
        trees.append(outcome[1])
    return ("no", ("name", k, trees[0], trees[1]))


def left_by(left, sign):
    return [(j, without(signs, -sign)) for j, signs in left if sign not in signs]


def without(signs, wrong):
    return [sign for sign in signs if sign != wrong]


# Steps in a list in the place of calls within calls: a tree may be as deep as there are names.
def shows(question, tree):
    taken = {}
    steps = [tree]
    while len(steps) > 0:
        step = steps.pop()
        word = step[0]
        if word == "take":
            taken[step[1]] = step[2]
        elif word == "leave":
            taken.pop(step[1])
        elif word == "row":
            if not is_lost(question[2], step[1], taken):
                return False
        else:
            k = step[1]
            if not 0 <= k < question[1] or k in taken:
                return False
            # The last step is done first.
            steps.extend([("leave", k), step[3], ("take", k, False), step[2], ("take", k, True)])
    return True


def is_lost(rows, j, taken):
    if not 0 <= j < len(rows):
        return False
    # Of a name that was not met there is no truth, so it is unlike both.
    return all([taken.get(abs(sign) - 1) == (sign < 0) for sign in rows[j]])
