"""Tests of [3.2]: the text of expressions."""

import random
import unittest

from countsworn.errors import CountsError, ExpressionError
from countsworn.expressions import is_expression
from countsworn.words import read_expression, show_expression

X = [("var", number) for number in range(10)]
WRITTEN = [
    (("var", 1), "x1"), (("var", 999), "x999"), (("var", 10), "x10"), (("yes",), "yes"), (("no",), "no"),
    (("not", X[1]), "not(x1)"), (("and",), "and()"), (("or",), "or()"), (("and", X[1]), "and(x1)"),
    (("or", X[2]), "or(x2)"), (("and", X[3], X[1], X[2]), "and(x3, x1, x2)"), (("or", X[1], X[1]), "or(x1, x1)"),
    (("xor", X[1], X[2]), "xor(x1, x2)"), (("iff", X[2], X[1]), "iff(x2, x1)"),
    (("implies", X[1], ("yes",)), "implies(x1, yes)"), (("if", X[1], X[2], X[3]), "if(x1, x2, x3)"),
    (("atmost", 0), "atmost(0)"), (("atmost", 12, X[1]), "atmost(12, x1)"),
    (("atmost", 1, X[2], X[2], X[1]), "atmost(1, x2, x2, x1)"), (("not", ("not", ("no",))), "not(not(no))"),
    (("and", ("or", X[1], ("not", X[2])), ("atmost", 1, ("and",), X[3]), ("if", ("yes",), ("xor", X[1], X[2]), X[5])),
     "and(or(x1, not(x2)), atmost(1, and(), x3), if(yes, xor(x1, x2), x5))"),
]


def some_expression(source, depth):
    """Some expression that nests at most so deep."""
    word = source.choice(["var", "yes", "no", "not", "and", "or", "xor", "iff", "implies", "if", "atmost"])
    if depth == 1 and word not in ("yes", "no"):
        word = "var"
    if word == "var":
        return ("var", source.choice([1, 2, 9, 10, 99, 100, 999]))
    many = {"yes": 0, "no": 0, "not": 1, "xor": 2, "iff": 2, "implies": 2, "if": 3}.get(word, source.randint(0, 3))
    parts = [some_expression(source, depth - 1) for _ in range(many)]
    return (word, source.choice([0, 1, 7, 10, 230]), *parts) if word == "atmost" else (word, *parts)


def tokens_of(text):
    """The tokens of a text that an expression was written as."""
    for sign in "(),":
        text = text.replace(sign, f" {sign} ")
    return text.split()


class Case(unittest.TestCase):
    def refuse(self, text, at):
        """Checks that a text is refused, with this offset."""
        with self.assertRaises(ExpressionError) as caught:
            read_expression(text)
        self.assertEqual(caught.exception.at, at, text)
        self.assertIsInstance(caught.exception, CountsError)


class Show(unittest.TestCase):
    def test_each_word(self):
        for expression, text in WRITTEN:
            self.assertEqual(show_expression(expression), text)

    def test_great_k(self):
        self.assertEqual(show_expression(("atmost", 10 ** 5000)), "atmost(1" + "0" * 5000 + ")")

    def test_deep(self):
        value = ("var", 3)
        for _ in range(60):
            value = ("not", value)
        self.assertEqual(show_expression(value), "not(" * 60 + "x3" + ")" * 60)


class Read(Case):
    def test_each_word(self):
        for expression, text in WRITTEN:
            self.assertEqual(read_expression(text), expression)

    def test_back(self):
        source = random.Random(31)
        for _ in range(400):
            expression = some_expression(source, source.randint(1, 6))
            self.assertIs(is_expression(expression), True)
            self.assertEqual(read_expression(show_expression(expression)), expression)

    def test_blanks(self):
        source = random.Random(32)
        for _ in range(200):
            expression = some_expression(source, 5)
            tokens = tokens_of(show_expression(expression))
            self.assertEqual(read_expression("".join(tokens)), expression)
            self.assertEqual(read_expression(" ".join(tokens)), expression)
            spread = "".join([" " * source.randint(0, 3) + token for token in tokens]) + " " * source.randint(0, 3)
            self.assertEqual(read_expression(spread), expression)

    def test_blanks_by_hand(self):
        for text in ("and(x1,x2)", "and(x1, x2)", " and(x1,x2)", "and (x1,x2)", "and( x1,x2)", "and(x1 ,x2)",
                     "and(x1,x2 )", "and(x1,x2) ", "   and   (   x1   ,   x2   )   "):
            self.assertEqual(read_expression(text), ("and", X[1], X[2]))
        for text in ("  x1", "x1  ", " x1 "):
            self.assertEqual(read_expression(text), X[1])
        self.assertEqual(read_expression("atmost ( 2 ) "), ("atmost", 2))
        self.assertEqual(read_expression(" or ( ) "), ("or",))

    def test_kinds(self):
        found = read_expression("atmost(1, x2)")
        self.assertIsInstance(found, tuple)
        self.assertIsInstance(found[2], tuple)
        self.assertIs(type(found[1]), int)

    def test_great_k(self):
        self.assertEqual(read_expression("atmost(1" + "0" * 5000 + ", x1)"), ("atmost", 10 ** 5000, X[1]))

    def test_forty_deep(self):
        expression = X[1]
        for _ in range(39):
            expression = ("and", expression)
        self.assertEqual(read_expression("and(" * 39 + "x1" + ")" * 39), expression)

    def test_deeper_than_expressions_may_be(self):
        for depth in (40, 50, 60):
            expression = X[1]
            for _ in range(depth):
                expression = ("not", expression)
            self.assertEqual(read_expression("not(" * depth + "x1" + ")" * depth), expression)


class Refused(Case):
    def test_words(self):
        for word in ("x", "X1", "y1", "true", "And", "AND", "ands", "an", "not1", "yesno", "yes1", "var", "1", "0",
                     "12", "x1x2", "1x", "xx1", "x1a", "atleast", "e", "x", "xyes", "None"):
            for ahead, behind in (("", ""), ("", "(x1)"), ("and(", ")"), ("or(x1, ", ", x2)"), ("  not( ", ")"),
                                  ("atmost(1, ", ")")):
                self.refuse(ahead + word + behind, len(ahead))

    def test_variables(self):
        for word in ("x0", "x00", "x01", "x001", "x1000", "x0999", "x999999999999999999999", "x"):
            self.refuse(word, 0)
            self.refuse(f" {word} ", 1)
            self.refuse(f"xor(x1, {word})", 8)
        self.refuse("x-1", 0)
        self.refuse("x 1", 0)
        self.refuse("x1 2", 3)
        self.refuse("-x1", 0)

    def test_signs_that_are_no_tokens(self):
        for sign in "&|!-+*/.;:_[]{}<>=\"'#%@~^?$\\\t\n\r":
            self.refuse(sign, 0)
            self.refuse(sign + "x1", 0)
            self.refuse("x1" + sign, 2)
            self.refuse("x1 " + sign, 3)
            self.refuse(f"and(x1{sign} x2)", 6)
            self.refuse(f"and(x1, {sign}x2)", 8)
            self.refuse(f"and{sign}(x1, x2)", 3)
            self.refuse(f"atmost({sign}1, x2)", 7)

    def test_other_tokens_in_the_place_of_an_expression(self):
        for token in ("(", ")", ",", "7"):
            self.refuse(token, 0)
            self.refuse("   " + token, 3)
            for ahead in ("and(x1, ", "atmost(1, ", "not(not( ", "if(x1, yes, "):
                self.refuse(ahead + token, len(ahead))
        for token in ("(", ",", "7"):
            for ahead in ("and(", "or(", "not( ", "if("):
                self.refuse(ahead + token, len(ahead))

    def test_numbers(self):
        for token in ("00", "01", "007", "1a", "x1", "yes", "a", "(", ")", ",", "-1", "+1", "not(x1)"):
            self.refuse(f"atmost({token}, x1)", 7)
            self.refuse(f"and(yes, atmost( {token}, x1))", 17)
        self.refuse("atmost()", 7)
        self.refuse("atmost(1 2)", 9)
        self.refuse("atmost(1 x1)", 9)
        self.refuse("atmost(1(x1))", 8)
        self.refuse("atmost(1, 2)", 10)
        self.refuse("atmost(1, x1, 2)", 14)
        self.refuse("atmost(1,)", 9)

    def test_missing_signs(self):
        for word in ("not", "and", "or", "xor", "iff", "implies", "if", "atmost"):
            self.refuse(word, len(word))
            self.refuse(word + " x1", len(word) + 1)
            self.refuse(word + ")", len(word))
            self.refuse(word + ",", len(word))
            self.refuse(f"and({word})", len(word) + 4)
        self.refuse("and(x1 x2)", 7)
        self.refuse("and(x1(x2))", 6)
        self.refuse("and(x1, x2 or(x3))", 11)
        self.refuse("and(x1, yes(x2))", 11)
        self.refuse("and(x1,, x2)", 7)
        self.refuse("and(x1,)", 7)
        self.refuse("and(, x1)", 4)
        self.refuse("if(x1, x2, )", 11)

    def test_too_few_parts(self):
        for text, at in [("not()", 4), ("xor()", 4), ("xor(x1)", 6), ("iff()", 4), ("iff( x12 )", 9), ("implies()", 8),
                         ("implies(yes)", 11), ("if()", 3), ("if(x1)", 5), ("if(x1, x2)", 9),
                         ("and(x1, if(x1, or(x2, x3)), x4)", 25)]:
            self.refuse(text, at)

    def test_too_many_parts(self):
        for text, at in [("not(x1, x2)", 6), ("not(x1 , x2)", 7), ("xor(x1, x2, x3)", 10), ("iff(x1, x2, x3)", 10),
                         ("implies(x1, x2, x3)", 14), ("if(x1, x2, x3, x4)", 13), ("not(x1,)", 6),
                         ("or(x1, not(or(x1, x2, x3), x4))", 25)]:
            self.refuse(text, at)

    def test_something_behind_the_end(self):
        for text in ("x1", "yes", "no", "and()", "not(x1)", "atmost(2)", "if(x1, x2, x3)"):
            for more in (")", ",", "(", "x2", "yes", "7", "()", ", x1"):
                self.refuse(f"{text} {more}", len(text) + 1)
                self.refuse(f"{text}  {more} ", len(text) + 2)
        self.refuse("and())", 5)
        self.refuse("not(x1))", 7)
        self.refuse("yes()", 3)
        self.refuse("x1()", 2)

    def test_early_end(self):
        for text in ("", " ", "     ", "not", "not ", "not(", "not(  ", "and(", "and(x1", "and(x1 ", "and(x1,",
                     "and(x1,  ", "xor(x1, x2", "atmost", "atmost(", "atmost(1", "atmost(12 ", "atmost(1,", "atmost(1, x1",
                     "if(x1, x2", "and(or(x1, not(x2))", "and(and("):
            self.refuse(text, len(text))

    def test_each_beginning_ends_too_early(self):
        text = "and(or(x1, not(x2)), atmost(1, and(), x3), if(yes, xor(x1, x2), x5))"
        for end in range(len(text)):
            within_a_word = text[end - 1:end].isalnum() and text[end].isalnum()
            if not within_a_word:
                self.refuse(text[:end], end)

    def test_the_first_fault_counts(self):
        self.refuse("xor(x1) &", 6)
        self.refuse("and(x0, & )", 4)
        self.refuse(") x0", 0)
        self.refuse("not(x1, x0)", 6)

    def test_deep_texts_lead_to_no_deep_calls(self):
        self.refuse("not(" * 20000, 80000)
        self.refuse("and(" * 20000 + ",", 80000)
        self.refuse("(" * 20000, 0)


if __name__ == "__main__":
    unittest.main()
