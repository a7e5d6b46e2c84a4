"""Friends turned to strangers, strangers to covers, and covers to sets."""

from chainturn.answers import not_chosen, refuse_unless
from chainturn.webs import cover_holds, friends_hold, others, sets_hold, strangers_hold, ties_of


def turn_turning_over(question):
    return ("strangers", question[1], others(question[1], question[2]), question[3])


def forth_turning_over(question, answer):
    refuse_unless(friends_hold(question, answer))
    return list(answer)


def back_turning_over(question, answer):
    refuse_unless(strangers_hold(turn_turning_over(question), answer))
    return list(answer)


def turn_rest(question):
    return ("cover", question[1], list(question[2]), question[1] - question[3])


def forth_rest(question, answer):
    refuse_unless(strangers_hold(question, answer))
    return not_chosen(question[1], answer)


def back_rest(question, answer):
    refuse_unless(cover_holds(turn_rest(question), answer))
    return not_chosen(question[1], answer)


def turn_ties(question):
    return ("sets", len(question[2]), ties_of(question[1], question[2]), question[3])


def forth_ties(question, answer):
    refuse_unless(cover_holds(question, answer))
    return list(answer)


def back_ties(question, answer):
    refuse_unless(sets_hold(turn_ties(question), answer))
    return list(answer)
