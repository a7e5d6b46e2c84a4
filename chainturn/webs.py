"""Webs and groups: which choices hold for friends, strangers, covers and sets."""

from chainturn.answers import is_choice


def friends_hold(question, answer):
    many = len(answer)
    if not is_choice(answer, question[1]) or many < question[3]:
        return False
    # A web tells each pair once, so each two are a pair just where all that could be are there.
    return ends_chosen(question, answer).count(2) == many * (many - 1) // 2


def strangers_hold(question, answer):
    if not is_choice(answer, question[1]) or len(answer) < question[3]:
        return False
    return 2 not in ends_chosen(question, answer)


def cover_holds(question, answer):
    if not is_choice(answer, question[1]) or len(answer) > question[3]:
        return False
    return 0 not in ends_chosen(question, answer)


def sets_hold(question, answer):
    groups = question[2]
    if not is_choice(answer, len(groups)) or len(answer) > question[3]:
        return False
    return 0 not in times_found(question[1], groups, answer)


def others(n, pairs):
    told = dict([(pair, True) for pair in pairs])
    found = []
    for i in range(n):
        found.extend([(i, j) for j in range(i + 1, n) if (i, j) not in told])
    return found


def ties_of(n, pairs):
    ties = [[] for person in range(n)]
    for place, pair in enumerate(pairs):
        for person in pair:
            ties[person].append(place)
    return [tuple(places) for places in ties]


def times_found(n, groups, choice):
    times = [0] * n
    for number in choice:
        for thing in groups[number]:
            times[thing] = times[thing] + 1
    return times


def ends_chosen(question, answer):
    chosen = [0] * question[1]
    for person in answer:
        chosen[person] = 1
    return [chosen[i] + chosen[j] for i, j in question[2]]
