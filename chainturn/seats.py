"""Strangers turned to clauses: as many seats as people are wanted, and no pair sits on two of them."""

from chainturn.answers import refuse_unless
from chainturn.clauses import clauses_hold
from chainturn.webs import strangers_hold


def turn_seats(question):
    n = question[1]
    # A k below 0 must not make the number of names one below 0 too.
    seats = max(0, question[3])
    rows = [tuple(range(seat_sign(n, p, 0), seat_sign(n, p, n))) for p in range(seats)]
    for p in range(seats):
        for q in range(p + 1, seats):
            rows.extend(rows_of_two(question, p, q))
    return ("clauses", seats * n, rows)


def forth_seats(question, answer):
    refuse_unless(strangers_hold(question, answer))
    n = question[1]
    return [answer[name // n] == name % n for name in range(question[3] * n)]


def back_seats(question, answer):
    refuse_unless(clauses_hold(turn_seats(question), answer))
    n = question[1]
    return sorted([answer[p * n:p * n + n].index(True) for p in range(question[3])])


def rows_of_two(question, p, q):
    n = question[1]
    rows = [(-seat_sign(n, p, v), -seat_sign(n, q, v)) for v in range(n)]
    for v, w in question[2]:
        rows.append((-seat_sign(n, p, v), -seat_sign(n, q, w)))
        rows.append((-seat_sign(n, p, w), -seat_sign(n, q, v)))
    return rows


def seat_sign(n, p, v):
    return p * n + v + 1
