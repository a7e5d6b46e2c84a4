"""Formulas and wishes: what a formula comes to, and which truths hold for a wish."""


def value(formula, truths):
    word = formula[0]
    if word == "name":
        return truths[formula[1]]
    if word == "not":
        return not value(formula[1], truths)
    if word == "and":
        return value(formula[1], truths) and value(formula[2], truths)
    return value(formula[1], truths) or value(formula[2], truths)


def parts(formula):
    if formula[0] == "name":
        return 1
    return 1 + sum([parts(inner) for inner in formula[1:]])


def wish_holds(question, answer):
    # The length comes first: by a list that is too short the formula has no value.
    return len(answer) == question[1] and value(question[2], answer)
