"""Tests of [3.1]: what is an expression, where it holds, which variables it has."""

import copy
import itertools
import unittest

from countsworn.expressions import holds, is_expression, variables_in

X = [("var", number) for number in range(10)]
ODD = [None, True, False, 0, 1, -1, 7, 1000, "", "x1", "var", "yes", "and", [], ["yes"], ["var", 1], (), ((),),
       (("yes",),), ("yes", None)]
# Each word with the numbers of parts that it may have, out of 0 to 5.
COUNTS = {"yes": (0,), "no": (0,), "not": (1,), "and": (0, 1, 2, 3, 4, 5), "or": (0, 1, 2, 3, 4, 5), "xor": (2,),
          "iff": (2,), "implies": (2,), "if": (3,)}


def nested(depth):
    """Some expression that nests so deep."""
    found = ("var", 1)
    while depth > 1:
        depth -= 1
        found = [("not", found), ("and", ("yes",), found), ("atmost", 1, found), ("if", X[2], found, X[3])][depth % 4]
    return found


def fillings(many):
    """All fillings of the variables from 1 to many."""
    return [tuple(row) for row in itertools.product(*[(-v, v) for v in range(1, many + 1)])]


class IsExpression(unittest.TestCase):
    def test_counts_of_parts(self):
        for word, counts in COUNTS.items():
            for many in range(6):
                self.assertIs(is_expression((word, *[X[1]] * many)), many in counts, (word, many))

    def test_variables(self):
        for variable in (1, 2, 17, 998, 999):
            self.assertIs(is_expression(("var", variable)), True)
        for wrong in (0, 1000, -1, -999, 10 ** 30, True, False, None, "1", "x1", (1,), [1], ("var", 1)):
            self.assertIs(is_expression(("var", wrong)), False, wrong)
        self.assertIs(is_expression(("var",)), False)
        self.assertIs(is_expression(("var", 1, 2)), False)
        self.assertIs(is_expression(("var", 1, X[2])), False)

    def test_atmost(self):
        for k in (0, 1, 2, 3, 10 ** 40):
            for many in range(4):
                self.assertIs(is_expression(("atmost", k, *X[1:many + 1])), True, (k, many))
        for wrong in (-1, -10 ** 40, True, False, None, "1", "", (1,), [1], X[1], ()):
            for many in range(4):
                self.assertIs(is_expression(("atmost", wrong, *X[1:many + 1])), False, (wrong, many))
        self.assertIs(is_expression(("atmost",)), False)
        self.assertIs(is_expression(("atmost", X[1], 1)), False)
        self.assertIs(is_expression(("atmost", 1, 1)), False)
        self.assertIs(is_expression(("atmost", 1, X[1], 1)), False)

    def test_odd_values(self):
        for value in ODD:
            self.assertIs(is_expression(value), False, value)

    def test_odd_parts(self):
        for value in ODD:
            for word in ("and", "or", "not"):
                self.assertIs(is_expression((word, value)), False, (word, value))
            for word in ("and", "or", "xor", "iff", "implies"):
                self.assertIs(is_expression((word, value, X[1])), False, (word, value))
                self.assertIs(is_expression((word, X[1], value)), False, (word, value))
            for at in range(3):
                parts = [X[1], X[2], X[3]]
                parts[at] = value
                self.assertIs(is_expression(("if", *parts)), False, value)
                self.assertIs(is_expression(("atmost", 2, *parts)), False, value)

    def test_words(self):
        for word in ("", "And", "AND", " and", "nand", "x1", "true", "ite", "atleast", 1, None, True, ("and",),
                     ["and"]):
            for many in range(4):
                self.assertIs(is_expression((word, *[X[1]] * many)), False, (word, many))

    def test_lists(self):
        for word, counts in COUNTS.items():
            self.assertIs(is_expression([word, *[X[1]] * counts[0]]), False)
        self.assertIs(is_expression(["var", 1]), False)
        self.assertIs(is_expression(["atmost", 1, X[1]]), False)
        self.assertIs(is_expression(("and", ["var", 1])), False)
        self.assertIs(is_expression(("and", [X[1], X[2]])), False)
        self.assertIs(is_expression(("not", [X[1]])), False)

    def test_a_fault_deep_within(self):
        for wrong in (("var", 0), ("xor", X[1]), 5, ["var", 1]):
            self.assertIs(is_expression(("and", X[1], ("if", X[1], X[2], ("or", X[3], ("not", wrong))))), False)

    def test_depth(self):
        for depth in range(1, 41):
            self.assertIs(is_expression(nested(depth)), True, depth)
        for depth in (41, 42, 43, 44, 50, 58):
            self.assertIs(is_expression(nested(depth)), False, depth)

    def test_depth_of_what_has_no_parts(self):
        for inner in (("yes",), ("no",), ("and",), ("or",), ("atmost", 0), ("atmost", 3)):
            for depth, fits in ((39, True), (40, False)):
                value = inner
                for _ in range(depth):
                    value = ("not", value)
                self.assertIs(is_expression(value), fits, (inner, depth))

    def test_depth_in_one_part_of_several(self):
        self.assertIs(is_expression(("or", X[1], nested(39), X[2])), True)
        self.assertIs(is_expression(("or", X[1], nested(40), X[2])), False)
        self.assertIs(is_expression(("or", X[1], X[2], nested(40))), False)

    def test_values_that_nest_deep(self):
        value = ()
        for _ in range(60):
            value = (value,)
        self.assertIs(is_expression(value), False)
        value = "and"
        for _ in range(60):
            value = ("and", value)
        self.assertIs(is_expression(value), False)


class Holds(unittest.TestCase):
    def check(self, expression, many, meaning):
        """Compares an expression over the variables from 1 to many with a function of their values."""
        for filling in fillings(many + 1):
            values = [literal > 0 for literal in filling[:many]]
            wider = filling + (55, -77)
            self.assertIs(holds(expression, wider), bool(meaning(*values)), (expression, filling))

    def test_each_word(self):
        self.check(X[1], 1, lambda a: a)
        self.check(("yes",), 0, lambda: True)
        self.check(("no",), 0, lambda: False)
        self.check(("not", X[1]), 1, lambda a: not a)
        self.check(("xor", X[1], X[2]), 2, lambda a, b: a != b)
        self.check(("iff", X[1], X[2]), 2, lambda a, b: a == b)
        self.check(("implies", X[1], X[2]), 2, lambda a, b: b or not a)
        self.check(("implies", X[2], X[1]), 2, lambda a, b: a or not b)
        self.check(("if", X[1], X[2], X[3]), 3, lambda a, b, c: b if a else c)
        self.check(("if", X[3], X[1], X[2]), 3, lambda a, b, c: a if c else b)

    def test_and_or(self):
        self.check(("and",), 0, lambda: True)
        self.check(("or",), 0, lambda: False)
        for many in (1, 2, 3, 4):
            self.check(("and", *X[1:many + 1]), many, lambda *row: all(row))
            self.check(("or", *X[1:many + 1]), many, lambda *row: any(row))

    def test_atmost(self):
        for many in range(5):
            for k in range(7):
                self.check(("atmost", k, *X[1:many + 1]), many, lambda *row: sum(row) <= k)

    def test_equal_parts_count_each(self):
        for k in range(5):
            self.check(("atmost", k, X[1], X[1]), 1, lambda a: 2 * a <= k)
            self.check(("atmost", k, X[1], X[2], X[1]), 2, lambda a, b: 2 * a + b <= k)
            part = ("or", X[1], X[2])
            self.check(("atmost", k, part, X[2], part), 2, lambda a, b: 2 * (a or b) + b <= k)

    def test_nested(self):
        self.check(("and", ("or", X[1], ("not", X[2])), ("xor", X[2], ("implies", X[3], ("no",)))), 3,
                   lambda a, b, c: (a or not b) and (b != (not c)))
        self.check(("if", ("iff", X[1], X[2]), ("atmost", 1, X[2], X[3], ("yes",)), ("not", ("not", X[3]))), 3,
                   lambda a, b, c: b + c + 1 <= 1 if a == b else c)

    def test_order_of_the_filling_does_not_matter(self):
        self.assertIs(holds(("implies", X[2], X[1]), (2, -1)), False)
        self.assertIs(holds(("implies", X[2], X[1]), [-2, 1]), True)
        self.assertIs(holds(("var", 999), (-1, 999)), True)
        self.assertIs(holds(("var", 999), (-999, 1)), False)

    def test_deep(self):
        value = ("var", 1)
        for at in range(60):
            value = ("not", value) if at < 10 else ("and", value)
        self.assertIs(holds(value, (1,)), True)
        self.assertIs(holds(value, (-1,)), False)
        self.assertEqual(variables_in(value), (1,))


class VariablesIn(unittest.TestCase):
    def test_variables(self):
        for expression, found in [
                (("yes",), ()), (("and",), ()), (("atmost", 3), ()), (("var", 7), (7,)), (("not", X[3]), (3,)),
                (("or", X[3], X[1], X[3], X[2], X[1]), (1, 2, 3)), (("atmost", 5, X[9], X[9]), (9,)),
                (("if", ("var", 999), X[2], ("xor", ("var", 10), ("var", 9))), (2, 9, 10, 999)),
                (("and", ("or", ("implies", X[1], X[1])), ("iff", ("no",), X[1])), (1,))]:
            self.assertEqual(variables_in(expression), found)
            self.assertIsInstance(variables_in(expression), tuple)

    def test_arguments_stay(self):
        value = ["and", ["var", 1]]
        before = copy.deepcopy(value)
        is_expression(value)
        self.assertEqual(value, before)
        filling = [2, -1]
        holds(("or", X[1], X[2]), filling)
        self.assertEqual(filling, [2, -1])


if __name__ == "__main__":
    unittest.main()
