"""Clauses and threes: when a sign is right, and which truths hold."""


def right(sign, truths):
    return truths[abs(sign) - 1] == (sign > 0)


def clauses_hold(question, answer):
    # The length comes first: by a list that is too short some signs are neither right nor wrong.
    if len(answer) != question[1]:
        return False
    return all([row_holds(row, answer) for row in question[2]])


def row_holds(row, truths):
    return any([right(sign, truths) for sign in row])
