"""A wish turned to clauses: each and, each or of its formula has a new name."""

from chainturn.answers import refuse_unless
from chainturn.clauses import clauses_hold, right
from chainturn.wishes import wish_holds


def turn_naming(question):
    named = Naming(question)
    rows = []
    for place, entry in enumerate(named.joins):
        rows.extend(rows_of(entry, named.first + place + 1))
    rows.append((named.top,))
    return ("clauses", named.first + len(named.joins), rows)


def forth_naming(question, answer):
    refuse_unless(wish_holds(question, answer))
    truths = list(answer)
    # The signs of both formulas are of names numbered below the part's own, so their truths are there already.
    for word, x, y in Naming(question).joins:
        if word == "and":
            truths.append(right(x, truths) and right(y, truths))
        else:
            truths.append(right(x, truths) or right(y, truths))
    return truths


def back_naming(question, answer):
    refuse_unless(clauses_hold(turn_naming(question), answer))
    return answer[:question[1]]


def rows_of(entry, g):
    x = entry[1]
    y = entry[2]
    if entry[0] == "and":
        return [(-g, x), (-g, y), (g, -x, -y)]
    return [(g, -x), (g, -y), (-g, x, y)]


class Naming:
    def __init__(self, question):
        self.first = question[1]
        # An entry for each and, each or, in the order of their new names: its word and the signs of both its formulas.
        self.joins = []
        self.top = self.sign_of(question[2])

    def sign_of(self, formula):
        word = formula[0]
        if word == "name":
            return formula[1] + 1
        if word == "not":
            return -self.sign_of(formula[1])
        x = self.sign_of(formula[1])
        y = self.sign_of(formula[2])
        self.joins.append((word, x, y))
        return self.first + len(self.joins)
