"""Tests of [3.3]: expressions to clauses."""

import copy
import itertools
import random
import unittest

from countsworn.clauses import formula_faults, keeps, residue_of
from countsworn.encode import encode
from countsworn.expressions import holds, variables_in

X = [("var", number) for number in range(20)]


def fillings(variables):
    """All fillings of some variables, ascending."""
    return [tuple(row) for row in itertools.product(*[(-v, v) for v in variables])]


def some_expression(source, depth, many):
    """Some expression over the variables from 1 to many."""
    word = source.choice(["var", "yes", "no", "not", "and", "or", "xor", "iff", "implies", "if", "atmost"])
    if depth == 1 and word not in ("yes", "no"):
        word = "var"
    if word == "var":
        return ("var", source.randint(1, many))
    count = {"yes": 0, "no": 0, "not": 1, "xor": 2, "iff": 2, "implies": 2, "if": 3}.get(word, source.randint(0, 3))
    parts = [some_expression(source, depth - 1, many) for _ in range(count)]
    return (word, source.randint(0, 3), *parts) if word == "atmost" else (word, *parts)


class Slow:
    """The encoding by the words of the document, with parts compared one by one."""

    def __init__(self, shown):
        self.free = [v for v in range(1, 999) if v not in shown]
        self.hidden = []
        self.known = []
        self.rows = []

    def fresh(self):
        self.hidden.append(self.free.pop(0))
        return self.hidden[-1]

    def literal(self, part):
        for own, literal in self.known:
            if own == part:
                return literal
        parts = [self.literal(item) for item in part[1:] if isinstance(item, tuple)]
        found = self.told(part, parts)
        self.known.append((part, found))
        return found

    def told(self, part, e):
        word = part[0]
        if word == "var":
            return part[1]
        if word == "not":
            return -e[0]
        if word == "atmost" and part[1] < len(e):
            return self.counted(part[1], e)
        h = self.fresh()
        self.rows += {
            "yes": lambda: [[h]], "no": lambda: [[-h]], "atmost": lambda: [[h]],
            "and": lambda: [[-h, x] for x in e] + [[h] + [-x for x in e]],
            "or": lambda: [[h, -x] for x in e] + [[-h] + e],
            "implies": lambda: [[h, e[0]], [h, -e[1]], [-h, -e[0], e[1]]],
            "xor": lambda: [[-h, e[0], e[1]], [-h, -e[0], -e[1]], [h, -e[0], e[1]], [h, e[0], -e[1]]],
            "iff": lambda: [[h, e[0], e[1]], [h, -e[0], -e[1]], [-h, -e[0], e[1]], [-h, e[0], -e[1]]],
            "if": lambda: [[-h, -e[0], e[1]], [h, -e[0], -e[1]], [-h, e[0], e[2]], [h, e[0], -e[2]]],
        }[word]()
        return h

    def counted(self, k, e):
        yes, no = 5000, -5000
        s = {(0, j): no for j in range(1, k + 2)}
        for i in range(len(e) + 1):
            s[i, 0] = yes
        for i in range(1, len(e) + 1):
            for j in range(1, k + 2):
                p, s[i, j] = self.fresh(), self.fresh()
                both, either = (s[i - 1, j - 1], e[i - 1]), (s[i - 1, j], p)
                self.rows += [[-p, x] for x in both] + [[p] + [-x for x in both]]
                self.rows += [[s[i, j], -x] for x in either] + [[-s[i, j], *either]]
        return -s[len(e), k + 1]

    def residue(self, told):
        rows = [set(row) for row in self.rows if 5000 not in row] + [{literal} for literal in told]
        clauses = [tuple(sorted(row - {-5000}, key=abs)) for row in rows if not any(-x in row for x in row)]
        return residue_of(clauses)


def slow_encode(expressions, shown):
    slow = Slow(shown)
    told = [slow.literal(expression) for expression in expressions]
    return (shown, tuple(slow.hidden), slow.residue(told))


class Case(unittest.TestCase):
    def check(self, expressions, shown, hidden, clauses):
        """Checks the whole formula of some expressions; the clauses stand in any order."""
        formula = encode(expressions, shown)
        self.assertEqual(formula, (shown, hidden, residue_of([tuple(row) for row in clauses])))
        self.check_models(expressions, shown)

    def check_models(self, expressions, shown):
        """Checks the models by going through all fillings."""
        formula = encode(expressions, shown)
        self.assertEqual(formula_faults(formula), [])
        for filling in fillings(shown):
            completions = [more for more in fillings(formula[1]) if keeps(formula[2], filling + more)]
            wanted = all(holds(expression, filling) for expression in expressions)
            self.assertEqual(len(completions), 1 if wanted else 0, (expressions, filling))


class Words(Case):
    def test_variable(self):
        self.check([X[2]], (1, 2, 3), (), [(2,)])

    def test_yes_and_no(self):
        self.check([("yes",)], (1,), (2,), [(2,)])
        self.check([("no",)], (1,), (2,), [(-2,), (2,)])

    def test_not_has_no_variable(self):
        self.check([("not", X[1])], (1,), (), [(-1,)])
        self.check([("not", ("not", X[1]))], (1,), (), [(1,)])
        self.check([("not", ("yes",))], (1,), (2,), [(2,), (-2,)])
        self.check([("not", ("or", X[1], X[2]))], (1, 2), (3,), [(-1, 3), (-2, 3), (1, 2, -3), (-3,)])

    def test_and(self):
        self.check([("and",)], (1,), (2,), [(2,)])
        self.check([("and", X[1])], (1,), (2,), [(1, -2), (-1, 2), (2,)])
        self.check([("and", X[1], X[3], ("not", X[2]))], (1, 2, 3), (4,),
                   [(1, -4), (3, -4), (-2, -4), (-1, 2, -3, 4), (4,)])

    def test_or(self):
        self.check([("or",)], (1,), (2,), [(-2,), (2,)])
        self.check([("or", X[1])], (1,), (2,), [(-1, 2), (1, -2), (2,)])
        self.check([("or", X[1], X[3], ("not", X[2]))], (1, 2, 3), (4,),
                   [(-1, 4), (-3, 4), (2, 4), (1, -2, 3, -4), (4,)])

    def test_xor(self):
        self.check([("xor", X[1], X[2])], (1, 2), (3,),
                   [(1, 2, -3), (-1, -2, -3), (-1, 2, 3), (1, -2, 3), (3,)])

    def test_iff(self):
        self.check([("iff", X[1], X[2])], (1, 2), (3,),
                   [(1, 2, 3), (-1, -2, 3), (-1, 2, -3), (1, -2, -3), (3,)])

    def test_implies(self):
        self.check([("implies", X[1], X[2])], (1, 2), (3,), [(1, 3), (-2, 3), (-1, 2, -3), (3,)])
        self.check([("implies", X[2], X[1])], (1, 2), (3,), [(2, 3), (-1, 3), (1, -2, -3), (3,)])

    def test_if(self):
        self.check([("if", X[1], X[2], X[3])], (1, 2, 3), (4,),
                   [(-1, 2, -4), (-1, -2, 4), (1, 3, -4), (1, -3, 4), (4,)])
        self.check([("if", X[3], X[1], X[2])], (1, 2, 3), (4,),
                   [(1, -3, -4), (-1, -3, 4), (2, 3, -4), (-2, 3, 4), (4,)])


class AtMost(Case):
    def test_as_yes(self):
        self.check([("atmost", 0)], (1,), (2,), [(2,)])
        self.check([("atmost", 5)], (1,), (2,), [(2,)])
        self.check([("atmost", 2, X[1], X[2])], (1, 2), (3,), [(3,)])
        self.check([("atmost", 3, X[1], X[2])], (1, 2), (3,), [(3,)])
        self.check([("atmost", 10 ** 20, X[1])], (1,), (2,), [(2,)])
        self.check([("not", ("atmost", 1, X[1]))], (1,), (2,), [(2,), (-2,)])

    def test_as_yes_still_has_its_parts(self):
        self.check([("atmost", 1, ("and", X[1], X[2]))], (1, 2), (3, 4), [(1, -3), (2, -3), (-1, -2, 3), (4,)])

    def test_none_of_one(self):
        # p(1, 1) = 2 is and of yes and e1; s(1, 1) = 3 is or of no and p.
        self.check([("atmost", 0, X[1])], (1,), (2, 3), [(1, -2), (-1, 2), (-2, 3), (2, -3), (-3,)])

    def test_none_of_two(self):
        self.check([("atmost", 0, X[1], X[2])], (1, 2), (3, 4, 5, 6), [
            (1, -3), (-1, 3), (-3, 4), (3, -4),
            (2, -5), (-2, 5), (-4, 6), (-5, 6), (4, 5, -6), (-6,)])

    def test_one_of_two(self):
        # i = 1: p 3, s 4 for j = 1; p 5, s 6 for j = 2; i = 2: p 7, s 8 for j = 1; p 9, s 10 for j = 2.
        self.check([("atmost", 1, X[1], X[2])], (1, 2), (3, 4, 5, 6, 7, 8, 9, 10), [
            (1, -3), (-1, 3), (-3, 4), (3, -4),
            (-5,), (1, -5), (-5, 6), (5, -6),
            (2, -7), (-2, 7), (-4, 8), (-7, 8), (4, 7, -8),
            (4, -9), (2, -9), (-2, -4, 9), (-6, 10), (-9, 10), (6, 9, -10), (-10,)])

    def test_in_between(self):
        for k in range(4):
            for many in range(1, 5):
                parts = [X[1], ("not", X[2]), X[3], X[4]][:many]
                shown = (1, 2, 3, 4)
                formula = encode([("atmost", k, *parts)], shown)
                self.assertEqual(formula, slow_encode([("atmost", k, *parts)], shown))
                self.assertEqual(len(formula[1]), 1 if k >= many else 2 * many * (k + 1))
                if len(formula[1]) <= 8:
                    self.check_models([("atmost", k, *parts)], shown)

    def test_the_literal_is_an_opposite(self):
        self.check([("not", ("atmost", 0, X[1]))], (1,), (2, 3), [(1, -2), (-1, 2), (-2, 3), (2, -3), (3,)])

    def test_equal_parts(self):
        for k in range(3):
            self.check_models([("atmost", k, X[1], X[1])], (1, 2))
        part = ("or", X[1], X[2])
        self.check_models([("atmost", 0, part, part)], (1, 2))
        formula = encode([("atmost", 0, part, part)], (1, 2))
        self.assertEqual(formula, slow_encode([("atmost", 0, part, part)], (1, 2)))
        self.assertEqual(formula[1], (3, 4, 5, 6, 7))


class Numbering(Case):
    def test_least_that_are_not_shown(self):
        self.check([("and", ("or", X[2], X[5]), ("or", X[5], X[6]))], (2, 5, 6), (1, 3, 4), [
            (1, -2), (1, -5), (-1, 2, 5), (3, -5), (3, -6), (-3, 5, 6), (1, -4), (3, -4), (-1, -3, 4), (4,)])

    def test_shown_that_stand_in_no_expression(self):
        self.check([("or", X[3], X[4])], (1, 2, 3, 4, 6), (5,), [(-3, 5), (-4, 5), (3, 4, -5), (5,)])
        self.check([X[3]], (1, 3), (), [(3,)])

    def test_own_parts_first_and_left_part_first(self):
        left = ("xor", X[1], X[2])
        right = ("and", X[2], X[3])
        formula = encode([("or", left, ("implies", right, X[1]))], (1, 2, 3))
        self.assertEqual(formula[1], (4, 5, 6, 7))
        for clause in [(-1, -2, -4), (2, -5), (5, 6), (-4, 7), (-6, 7), (4, 6, -7), (7,)]:
            self.assertIn(clause, formula[2])
        self.check_models([("or", left, ("implies", right, X[1]))], (1, 2, 3))

    def test_each_expression_of_the_list_in_order(self):
        self.check([("or", X[1], X[2]), ("and", X[1])], (1, 2), (3, 4),
                   [(-1, 3), (-2, 3), (1, 2, -3), (1, -4), (-1, 4), (3,), (4,)])
        self.check([("and", X[1]), ("or", X[1], X[2])], (1, 2), (3, 4),
                   [(1, -3), (-1, 3), (-1, 4), (-2, 4), (1, 2, -4), (3,), (4,)])

    def test_equal_parts_share_a_literal(self):
        part = ("or", X[1], X[2])
        self.check([("xor", part, ("or", X[1], X[2]))], (1, 2), (3, 4),
                   [(-1, 3), (-2, 3), (1, 2, -3), (-3, -4), (3, -4), (4,)])
        self.check([part, ("and", X[1], part), part], (1, 2), (3, 4),
                   [(-1, 3), (-2, 3), (1, 2, -3), (1, -4), (3, -4), (-1, -3, 4), (3,), (4,)])

    def test_only_equal_parts_share(self):
        for pair in [(("or", X[1], X[2]), ("or", X[2], X[1])), (("and",), ("yes",)), (("or",), ("no",)),
                     (("atmost", 2, X[1]), ("atmost", 3, X[1])), (("or", X[1]), ("and", X[1])),
                     (("or", X[1]), ("or", X[1], X[1])), (("or", X[1]), ("or", ("not", ("not", X[1])))),
                     (("implies", X[1], X[2]), ("or", ("not", X[1]), X[2])),
                     (("xor", X[1], X[2]), ("iff", X[1], X[2]))]:
            formula = encode(list(pair), (1, 2))
            self.assertEqual(formula[1], (3, 4), pair)
            self.assertEqual(formula, slow_encode(list(pair), (1, 2)))

    def test_the_parts_of_if(self):
        parts = [("and", X[1]), ("or", X[1]), ("and", X[2])]
        formula = encode([("if", *parts)], (1, 2))
        self.assertEqual(formula[1], (3, 4, 5, 6))
        for clause in [(1, -3), (-1, 4), (2, -5), (-3, 4, -6), (-3, -4, 6), (3, 5, -6), (3, -5, 6)]:
            self.assertIn(clause, formula[2])

    def test_atmost_within(self):
        expression = ("or", ("atmost", 0, ("and", X[1], X[2])), X[1])
        # 3 is the and, 4 and 5 are p and s, 6 the or.
        self.check([expression], (1, 2), (3, 4, 5, 6), [
            (1, -3), (2, -3), (-1, -2, 3), (3, -4), (-3, 4), (-4, 5), (4, -5), (5, 6), (-1, 6), (1, -5, -6), (6,)])


class Whole(Case):
    def test_no_expression(self):
        self.check([], (1, 2), (), [])
        self.check([], (), (), [])

    def test_no_shown_variable(self):
        self.check([("yes",)], (), (1,), [(1,)])
        self.check([("or", ("no",), ("yes",))], (), (1, 2, 3), [(-1,), (2,), (-1, 3), (-2, 3), (1, 2, -3), (3,)])

    def test_clauses_with_both_signs_are_left_out(self):
        self.check([("or", X[1], ("not", X[1]))], (1,), (2,), [(-1, 2), (1, 2), (2,)])
        self.check([("and", X[1], ("not", X[1]))], (1,), (2,), [(1, -2), (-1, -2), (2,)])
        self.check([("xor", X[1], X[1])], (1,), (2,), [(1, -2), (-1, -2), (2,)])
        self.check([("iff", X[1], X[1])], (1,), (2,), [(1, 2), (-1, 2), (2,)])
        self.check([("implies", X[1], X[1])], (1,), (2,), [(1, 2), (-1, 2), (2,)])
        self.check([("if", X[1], X[1], ("not", X[1]))], (1,), (2,), [(-1, 2), (1, 2), (2,)])

    def test_equal_literals_stand_once(self):
        self.check([("and", X[1], X[1])], (1,), (2,), [(1, -2), (-1, 2), (2,)])
        self.check([X[1], X[1]], (1,), (), [(1,)])
        self.check([X[1], ("not", X[1])], (1,), (), [(1,), (-1,)])

    def test_order_of_the_clauses(self):
        self.assertEqual(encode([("xor", X[1], X[2])], (1, 2))[2],
                         ((-1, -2, -3), (-1, 2, 3), (1, -2, 3), (1, 2, -3), (3,)))

    def test_kinds(self):
        formula = encode([("or", X[1], X[2])], (1, 2))
        for part in (formula, *formula, *formula[2]):
            self.assertIsInstance(part, tuple)

    def test_some_expressions(self):
        source = random.Random(33)
        looked = 0
        for _ in range(1500):
            expressions = [some_expression(source, source.randint(1, 4), 3) for _ in range(source.randint(0, 3))]
            others = source.sample(range(1, 9), source.randint(0, 2))
            used = [variable for expression in expressions for variable in variables_in(expression)]
            shown = tuple(sorted(set(used + others)))
            formula = encode(expressions, shown)
            self.assertEqual(formula, slow_encode(expressions, shown))
            self.assertEqual(formula_faults(formula), [])
            if len(formula[1]) <= 9:
                looked += 1
                self.check_models(expressions, shown)
        self.assertGreater(looked, 500)

    def test_deep(self):
        expression = X[1]
        for _ in range(60):
            expression = ("and", expression)
        formula = encode([expression], (1,))
        self.assertEqual(formula[1], tuple(range(2, 62)))
        self.assertIn((60, -61), formula[2])

    def test_arguments_stay(self):
        expressions = [("or", X[1], X[2]), ("atmost", 1, X[1], X[2])]
        before = copy.deepcopy(expressions)
        encode(expressions, (1, 2))
        self.assertEqual(expressions, before)


if __name__ == "__main__":
    unittest.main()
