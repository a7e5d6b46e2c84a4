"""A wish read from a text, and a formula shown as a text."""

from chainturn.errors import NoText

LETTERS = "abcdefghijklmnopqrstuvwxyz"
MARKS = "!&|()"
MOST_SIGNS = 300
MOST_LETTERS = 8
MOST_PLACES = 40
MOST_NOTS = 20
MOST_BRACKETS = 20

# Stands behind the last token, so that there is always a token to look at.
END = ""


def read(text):
    if not isinstance(text, str):
        raise NoText("this is no text")
    if len(text) > MOST_SIGNS:
        raise NoText("the text has too many signs")
    tokens = tokens_of(text)
    refuse_too_much(tokens)
    reader = Reader(tokens + [END])
    formula = reader.whole()
    names = list(reader.numbers)
    return (names, ("wish", len(names), formula))


def shown(names, formula):
    word = formula[0]
    if word == "name":
        return names[formula[1]]
    if word == "not":
        return "!" + shown(names, formula[1])
    mark = " & " if word == "and" else " | "
    return "(" + shown(names, formula[1]) + mark + shown(names, formula[2]) + ")"


def tokens_of(text):
    tokens = []
    name = ""
    # The blank put behind ends a name that the text itself ends with.
    for sign in text + " ":
        if sign in LETTERS:
            name = name + sign
        else:
            if name != "":
                tokens.append(name)
                name = ""
            if sign in MARKS:
                tokens.append(sign)
            elif sign != " ":
                raise NoText(f"the sign {sign!r} has no meaning")
    return tokens


# Asked ahead of the reading, so that the reading never goes deeper than the bounds let it.
def refuse_too_much(tokens):
    places = [token for token in tokens if token.isalpha()]
    if any([len(name) > MOST_LETTERS for name in places]):
        raise NoText("a name has too many letters")
    if len(places) > MOST_PLACES:
        raise NoText("the text has too many places of names")
    if tokens.count("!") > MOST_NOTS:
        raise NoText("the text has too many signs !")
    if most_brackets_open(tokens) > MOST_BRACKETS:
        raise NoText("too many brackets are open at once")


def most_brackets_open(tokens):
    most = 0
    now = 0
    for token in tokens:
        if token == "(":
            now = now + 1
        elif token == ")":
            now = now - 1
        most = max(most, now)
    return most


class Reader:
    def __init__(self, tokens):
        self.tokens = tokens
        self.place = 0
        # A dict keeps the order in which its keys came: this is the order of the names.
        self.numbers = {}

    def ahead(self):
        return self.tokens[self.place]

    def take(self):
        token = self.ahead()
        self.place = self.place + 1
        return token

    def whole(self):
        formula = self.either()
        if self.ahead() != END:
            raise NoText("the text goes on behind its formula")
        return formula

    def either(self):
        formula = self.both()
        while self.ahead() == "|":
            self.take()
            formula = ("or", formula, self.both())
        return formula

    def both(self):
        formula = self.single()
        while self.ahead() == "&":
            self.take()
            formula = ("and", formula, self.single())
        return formula

    def single(self):
        token = self.take()
        if token == "!":
            return ("not", self.single())
        if token == "(":
            return self.bracketed()
        if not token.isalpha():
            raise NoText("a name, a bracket or a ! is missing")
        return ("name", self.numbers.setdefault(token, len(self.numbers)))

    def bracketed(self):
        formula = self.either()
        if self.take() != ")":
            raise NoText("a bracket is not closed")
        return formula
