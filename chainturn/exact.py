"""Exact choices: which hold, how colours are turned to them, and how they are turned to sums."""

from chainturn.answers import is_choice, refuse_unless
from chainturn.colours import colours_hold
from chainturn.sums import powers, sum_at, sums_hold
from chainturn.webs import ties_of, times_found


def exact_holds(question, answer):
    n = question[1]
    groups = question[2]
    return is_choice(answer, len(groups)) and times_found(n, groups, answer).count(1) == n


def turn_parting(question):
    n = question[1]
    things = n + 3 * len(question[2])
    groups = []
    for v, places in enumerate(ties_of(n, question[2])):
        groups.extend([group_of(n, v, places, c) for c in range(3)])
    groups.extend([(thing,) for thing in range(n, things)])
    return ("exact", things, groups)


def forth_parting(question, answer):
    refuse_unless(colours_hold(question, answer))
    turned = turn_parting(question)
    choice = [3 * v + c for v, c in enumerate(answer)]
    times = times_found(turned[1], turned[2], choice)
    # The groups of one thing begin at 3 n, their things at n.
    n = question[1]
    return choice + [2 * n + thing for thing in range(n, turned[1]) if times[thing] == 0]


def back_parting(question, answer):
    refuse_unless(exact_holds(turn_parting(question), answer))
    # No thing v is in two groups chosen, so just one of its three is among them.
    return [number % 3 for number in answer if number < 3 * question[1]]


def turn_columns(question):
    groups = question[2]
    columns = powers(len(groups) + 1, question[1])
    return ("sums", [sum_at(columns, group) for group in groups], sum(columns))


def forth_columns(question, answer):
    refuse_unless(exact_holds(question, answer))
    return list(answer)


def back_columns(question, answer):
    refuse_unless(sums_hold(turn_columns(question), answer))
    return list(answer)


def group_of(n, v, places, c):
    return (v,) + tuple([n + 3 * e + c for e in places])
