"""Points 5 and 6: what is read from a text, what is refused, and how a formula is shown."""

import itertools
import unittest
import warnings

from chainturn.errors import NoText
from chainturn.reading import read, shown
from chainturn.wishes import parts

A = ("name", 0)
B = ("name", 1)
C = ("name", 2)
D = ("name", 3)


class Term:
    """Python's own ~, & and | bind and group as the document's !, & and | do."""

    def __init__(self, formula):
        self.formula = formula

    def __invert__(self):
        return Term(("not", self.formula))

    def __and__(self, other):
        return Term(("and", self.formula, other.formula)) if isinstance(other, Term) else NotImplemented

    def __or__(self, other):
        return Term(("or", self.formula, other.formula)) if isinstance(other, Term) else NotImplemented


class Numbered(dict):
    def __missing__(self, name):
        self[name] = Term(("name", len(self)))
        return self[name]


def expected(text):
    """What Python's own reader makes of the text: (names, question), or None."""
    terms = Numbered()
    try:
        term = eval(text.strip(" ").replace("!", "~"), {"__builtins__": {}}, terms)
    except (SyntaxError, TypeError):
        return None
    if not isinstance(term, Term):
        return None
    return (list(terms), ("wish", len(terms), term.formula))


def answered(text):
    try:
        return read(text)
    except NoText:
        return None


class WhatIsRead(unittest.TestCase):
    def check(self, text, names, formula):
        with self.subTest(text=text):
            self.assertEqual((names, ("wish", len(names), formula)), read(text))

    def test_the_kinds_of_what_is_given_back(self):
        given = read("b & a")
        self.assertIsInstance(given, tuple)
        self.assertIsInstance(given[0], list)
        self.assertIsInstance(given[1], tuple)
        self.assertIsInstance(given[1][2], tuple)

    def test_the_documents_example(self):
        formula = ("or", A, ("and", ("and", B, ("not", C)), D))
        self.check("a | b & !c & d", ["a", "b", "c", "d"], formula)

    def test_names_are_numbered_as_they_first_come(self):
        self.check("z", ["z"], A)
        self.check("b & a", ["b", "a"], ("and", A, B))
        self.check("b & b", ["b"], ("and", A, A))
        self.check("c | a & c | b", ["c", "a", "b"], ("or", ("or", A, ("and", B, A)), C))
        self.check("x & !(y | x) & z", ["x", "y", "z"], ("and", ("and", A, ("not", ("or", B, A))), C))

    def test_names_that_begin_alike_are_unlike(self):
        self.check("a & ab & abc & ab", ["a", "ab", "abc"], ("and", ("and", ("and", A, B), C), B))

    def test_and_binds_closer_than_or(self):
        self.check("a & b | c", ["a", "b", "c"], ("or", ("and", A, B), C))
        self.check("a | b & c", ["a", "b", "c"], ("or", A, ("and", B, C)))
        self.check("a & b | c & d", ["a", "b", "c", "d"], ("or", ("and", A, B), ("and", C, D)))
        self.check("a | b & c | d", ["a", "b", "c", "d"], ("or", ("or", A, ("and", B, C)), D))

    def test_the_left_ones_are_put_together_first(self):
        self.check("a & b & c", ["a", "b", "c"], ("and", ("and", A, B), C))
        self.check("a | b | c", ["a", "b", "c"], ("or", ("or", A, B), C))
        self.check("a | b | c | d", ["a", "b", "c", "d"], ("or", ("or", ("or", A, B), C), D))

    def test_brackets_change_what_is_put_together(self):
        self.check("a & (b & c)", ["a", "b", "c"], ("and", A, ("and", B, C)))
        self.check("a | (b | c)", ["a", "b", "c"], ("or", A, ("or", B, C)))
        self.check("(a | b) & c", ["a", "b", "c"], ("and", ("or", A, B), C))
        self.check("a & (b | c) & d", ["a", "b", "c", "d"], ("and", ("and", A, ("or", B, C)), D))

    def test_not_ahead_of_a_name_a_bracket_another_not(self):
        self.check("!a", ["a"], ("not", A))
        self.check("!(a)", ["a"], ("not", A))
        self.check("!(a & b)", ["a", "b"], ("not", ("and", A, B)))
        self.check("!!a", ["a"], ("not", ("not", A)))
        self.check("!!(a | !b)", ["a", "b"], ("not", ("not", ("or", A, ("not", B)))))
        self.check("!a & b", ["a", "b"], ("and", ("not", A), B))
        self.check("!a | b", ["a", "b"], ("or", ("not", A), B))
        self.check("a & !b", ["a", "b"], ("and", A, ("not", B)))

    def test_brackets_that_are_not_needed(self):
        self.check("(a)", ["a"], A)
        self.check("(((a)))", ["a"], A)
        self.check("((a) & (b))", ["a", "b"], ("and", A, B))
        self.check("(a & b) & c", ["a", "b", "c"], ("and", ("and", A, B), C))
        self.check("!((!(a)))", ["a"], ("not", ("not", A)))

    def test_blanks_count_for_nothing_and_none_is_needed(self):
        tokens = ["!", "(", "ab", "&", "!", "!", "c", ")", "|", "(", "d", ")"]
        formula = ("or", ("not", ("and", A, ("not", ("not", B)))), C)
        self.check("".join(tokens), ["ab", "c", "d"], formula)
        self.check("   ".join(tokens), ["ab", "c", "d"], formula)
        for place in range(len(tokens) + 1):
            for blanks in (" ", "    "):
                text = "".join(tokens[:place]) + blanks + "".join(tokens[place:])
                self.check(text, ["ab", "c", "d"], formula)

    def test_names_of_one_letter_and_of_eight(self):
        for letter in "abcdefghijklmnopqrstuvwxyz":
            self.check(letter, [letter], A)
            self.check(letter * 8, [letter * 8], A)
        self.check("abcdefgh | zyxwvuts", ["abcdefgh", "zyxwvuts"], ("or", A, B))

    def test_words_of_python_are_names_like_others(self):
        self.check("not & and | or", ["not", "and", "or"], ("or", ("and", A, B), C))
        self.check("name & wish", ["name", "wish"], ("and", A, B))

    def test_all_short_texts(self):
        with warnings.catch_warnings():
            warnings.simplefilter("ignore")
            read_ones = 0
            for length in range(6):
                for signs in itertools.product("ab!&|() ", repeat=length):
                    text = "".join(signs)
                    told = expected(text)
                    read_ones = read_ones + (told is not None)
                    if told != answered(text):
                        self.fail(f"{text!r}: {told!r} expected, {answered(text)!r} read")
        self.assertGreater(read_ones, 500)

    def test_texts_put_together(self):
        pieces = ["a", "!b", "(c | a)", "!(b & !!a)", "((d))"]
        for marks in itertools.product("&|", repeat=3):
            for chosen in itertools.product(pieces, repeat=4):
                text = chosen[0] + "".join(mark + piece for mark, piece in zip(marks, chosen[1:]))
                self.assertEqual(expected(text), read(text), text)


class WhatIsRefused(unittest.TestCase):
    def refused(self, text):
        with self.subTest(text=text):
            with self.assertRaises(NoText):
                read(text)

    def test_the_empty_text_and_blanks_alone(self):
        for blanks in (0, 1, 2, 300):
            self.refused(" " * blanks)

    def test_a_name_of_nine_letters(self):
        for text in ("abcdefghi", "a & abcdefghi", "!abcdefghi", "(abcdefghi)", "abcdefghi & a"):
            self.refused(text)

    def test_two_names_with_only_blanks_between(self):
        for text in ("a b", "a    b", "a & b c", "(a b)", "a a", "!a b", "abcd efgh"):
            self.refused(text)

    def test_a_sign_where_none_may_stand(self):
        for text in ("&", "|", "!", "& a", "| a", "a &", "a |", "a !", "a & & b", "a | | b", "a & | b", "a && b",
                     "a || b", "a ! b", "a !& b", "! & a", "! | a", "a & !", "!!", "(& a)", "(a &)", "(!)", "(|)",
                     "a(!b)", "a !(b)", "(a) b", "a (b)", "(a)(b)", "(a)!b", "a & () & b"):
            self.refused(text)

    def test_brackets_that_do_not_fit(self):
        for text in ("(", ")", "()", ")(", "(a", "a)", "((a)", "(a))", ")a(", "a & (b", "a & b)", "(a & (b)", "!(",
                     "!()", "(()a)", "( )", "a)(b"):
            self.refused(text)

    def test_other_signs(self):
        others = ["A", "Z", "0", "7", ",", ".", "\n", "\t", "\r", "\v", "\f", "\0", "-", "+", "~", "^", "*", "=", "[",
                  "]", "{", "}", "<", ">", "_", "'", '"', "\\", "/", "%", "$", "#", "@", "?", ";", ":", "`", "\x7f",
                  "\u00a0", "\u00e9", "\u00df", "\u00aa", "\u00ac", "\u03b1", "\u0430", "\u2003", "\uff41", "\uff01",
                  "\u2227", "\ud800", "\U0001d41a"]
        for sign in others:
            for text in (sign, "a" + sign, sign + "a", "a" + sign + "b", "a & " + sign, "a " + sign + " & b",
                         "(a" + sign + ")", "!" + sign + "a", "a & b" + sign):
                self.refused(text)

    def test_what_is_no_text(self):
        for thing in (0, 1, -5, True, False, None, [], ["a"], (), ("a",), {}, {"a": 1}, b"a", 1.5, "a".isalpha):
            self.refused(thing)


class Bounds(unittest.TestCase):
    def accepted(self, text):
        with self.subTest(text=text):
            told = expected(text)
            self.assertIsNotNone(told)
            self.assertEqual(told, read(text))

    def refused(self, text):
        with self.subTest(text=text):
            self.assertIsNotNone(expected(text), "only the bound is to refuse it")
            with self.assertRaises(NoText):
                read(text)

    def test_300_signs_and_301(self):
        # 34 names of eight letters, but the last: 33 * 9 + 3 signs.
        names = ["abcdefg" + letter for letter in "abcdefghijklmnopqrstuvwxyz"] * 2
        dense = "&".join(names[:33]) + "&abc"
        self.assertEqual(300, len(dense))
        self.accepted(dense)
        self.refused(dense + "d")
        self.refused(dense + " ")
        self.refused(" " + dense)
        for text in ("a" + " " * 299, " " * 299 + "a", "a" + " " * 297 + "|b", " " * 150 + "a" + " " * 149):
            self.assertEqual(300, len(text))
            self.accepted(text)
            self.refused(text + " ")
            self.refused(" " + text)
        self.refused("a" + " " * 5000)

    def test_40_places_of_names_and_41(self):
        for mark in ("&", "|", " & "):
            self.accepted(mark.join(["a"] * 40))
            self.refused(mark.join(["a"] * 41))
        unlike = ["x" + one + other for one in "abcdefgh" for other in "qrstuv"]
        self.accepted("|".join(unlike[:40]))
        self.refused("|".join(unlike[:41]))
        self.accepted("&".join(["abcdef"] * 40))

    def test_20_nots_and_21(self):
        self.accepted("!" * 20 + "a")
        self.refused("!" * 21 + "a")
        self.accepted("&".join(["!a"] * 20))
        self.refused("&".join(["!a"] * 21))
        self.accepted("&".join(["!a"] * 20 + ["a"] * 20))
        self.refused("!(" * 10 + "!!a" + ")" * 10 + "|" + "!" * 9 + "b")
        self.accepted("!(" * 10 + "!!a" + ")" * 10 + "|" + "!" * 8 + "b")

    def test_20_brackets_open_at_once_and_21(self):
        self.accepted("(" * 20 + "a" + ")" * 20)
        self.refused("(" * 21 + "a" + ")" * 21)
        self.accepted("a&(" * 20 + "a" + ")" * 20)
        self.refused("a&(" * 21 + "a" + ")" * 21)
        self.accepted("b | " + "(" * 20 + "a" + ")" * 20 + " & b")
        self.refused("b | " + "(" * 21 + "a" + ")" * 21 + " & b")

    def test_more_than_20_brackets_not_open_at_once(self):
        self.accepted("&".join(["(a)"] * 40))
        deep = "(" * 20 + "a" + ")" * 20
        self.accepted("|".join([deep] * 5))
        self.refused("|".join([deep] * 5 + ["(" + deep + ")"]))
        self.refused("(" + "|".join([deep] * 5) + ")")
        self.accepted("(" * 19 + "(a)&(b)" + ")" * 19)

    def test_brackets_that_never_close_in_number(self):
        for text in ("(" * 300, ")" * 150 + "(" * 150, "!" * 300, "(" * 150 + ")" * 150, ")" * 300):
            with self.subTest(text=text):
                with self.assertRaises(NoText):
                    read(text)

    def test_all_bounds_at_once(self):
        text = "!a&(" * 20 + "|".join(["a"] * 20) + ")" * 20
        text = text + " " * (300 - len(text))
        self.assertEqual(300, len(text))
        self.accepted(text)
        self.assertEqual(40 + 39 + 20, parts(read(text)[1][2]))


class Shown(unittest.TestCase):
    def test_each_form(self):
        names = ["a", "bee", "c"]
        for formula, text in [
            (A, "a"),
            (B, "bee"),
            (C, "c"),
            (("not", B), "!bee"),
            (("not", ("not", A)), "!!a"),
            (("and", A, B), "(a & bee)"),
            (("or", A, B), "(a | bee)"),
            (("and", B, A), "(bee & a)"),
            (("and", A, A), "(a & a)"),
            (("not", ("and", A, B)), "!(a & bee)"),
            (("not", ("or", A, ("not", B))), "!(a | !bee)"),
            (("or", ("and", A, B), C), "((a & bee) | c)"),
            (("or", A, ("and", B, C)), "(a | (bee & c))"),
            (("and", ("and", A, B), C), "((a & bee) & c)"),
            (("and", A, ("and", B, C)), "(a & (bee & c))"),
            (("and", ("not", A), ("not", ("not", C))), "(!a & !!c)"),
        ]:
            with self.subTest(text=text):
                self.assertEqual(text, shown(names, formula))

    def test_the_documents_example(self):
        names, question = read("a | b & !c & d")
        self.assertEqual("(a | ((b & !c) & d))", shown(names, question[2]))

    def test_names_of_the_list_that_the_formula_has_not(self):
        self.assertEqual("(d | b)", shown(["a", "b", "c", "d"], ("or", D, B)))

    def test_what_is_shown_is_read_again(self):
        pieces = ["a", "!b", "(c | a)", "!(b & !!a)", "((dddddddd))"]
        texts = [one + mark + two + more + three
                 for one in pieces for mark in "&|" for two in pieces for more in "&|" for three in pieces]
        texts = texts + ["!" * 20 + "a", "|".join(["a"] * 21), "a|(" * 20 + "b" + ")" * 20, "abcdefgh"]
        for text in texts:
            names, question = read(text)
            self.assertEqual((names, question), read(shown(names, question[2])), text)

    def test_shown_beyond_what_may_be_read(self):
        formula = A
        text = "a"
        for _ in range(60):
            formula = ("or", ("not", formula), B)
            text = "(!" + text + " | b)"
        self.assertEqual(text, shown(["a", "b"], formula))


if __name__ == "__main__":
    unittest.main()
