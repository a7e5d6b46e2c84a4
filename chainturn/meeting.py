"""Clauses turned to friends: a person for each sign of each row, and those meet who can be right together."""

from chainturn.answers import refuse_unless
from chainturn.clauses import clauses_hold, right
from chainturn.webs import friends_hold


def turn_meeting(question):
    people = people_of(question)
    pairs = []
    for i, one in enumerate(people):
        pairs.extend([(i, j) for j in range(i + 1, len(people)) if can_meet(one, people[j])])
    return ("friends", len(people), pairs, len(question[2]))


def forth_meeting(question, answer):
    refuse_unless(clauses_hold(question, answer))
    choice = []
    first = 0
    for row in question[2]:
        choice.append(first + first_right(row, answer))
        first = first + len(row)
    return choice


def back_meeting(question, answer):
    refuse_unless(friends_hold(turn_meeting(question), answer))
    people = people_of(question)
    truths = [False] * question[1]
    for person in answer:
        sign = people[person][1]
        if sign > 0:
            truths[sign - 1] = True
    return truths


def people_of(question):
    people = []
    for j, row in enumerate(question[2]):
        people.extend([(j, sign) for sign in row])
    return people


def can_meet(one, other):
    return one[0] != other[0] and one[1] != -other[1]


def first_right(row, truths):
    return [right(sign, truths) for sign in row].index(True)
