"""Tests of [2.4] and [3.4]: models and their sum by going through all fillings."""

import copy
import itertools
import random
import unittest
from fractions import Fraction

from countsworn.clauses import residue_of
from countsworn.plain import plain_models, plain_sum


def slow_models(formula):
    """The models by the words of the document alone."""
    shown, hidden, residue = formula
    found = []
    for signs in itertools.product((-1, 1), repeat=len(shown)):
        filling = tuple(sign * v for sign, v in zip(signs, shown))
        for more in itertools.product((-1, 1), repeat=len(hidden)):
            whole = filling + tuple(sign * v for sign, v in zip(more, hidden))
            if all(set(clause) & set(whole) for clause in residue):
                found.append(filling)
                break
    return found


def slow_sum(formula, weights):
    """The sum of the weights of the models, by Python's own fractions."""
    own = {literal: Fraction(*weight) for literal, weight in weights}
    found = Fraction(0)
    for filling in slow_models(formula):
        weight = Fraction(1)
        for literal in filling:
            weight *= own.get(literal, 1)
        found += weight
    return (found.numerator, found.denominator)


def some_formula(source):
    """Some formula of few variables."""
    variables = sorted(source.sample(range(1, 20), source.randint(0, 7)))
    hidden = [v for v in variables if source.random() < 0.3]
    clauses = []
    for _ in range(source.randint(0, 8) if variables else source.randint(0, 1)):
        some = sorted(source.sample(variables, min(len(variables), source.choice([1, 2, 2, 3, 3]))))
        clauses.append(tuple(v * source.choice([1, -1]) for v in some))
    return (tuple(v for v in variables if v not in hidden), tuple(hidden), residue_of(clauses))


def some_weights(source, formula):
    """Some weights for a formula."""
    pairs = []
    for v in formula[0]:
        for literal in (-v, v):
            if source.random() < 0.7:
                weight = Fraction(source.randint(0, 9), source.randint(1, 6))
                pairs.append((literal, (weight.numerator, weight.denominator)))
    return tuple(pairs)


class Models(unittest.TestCase):
    def test_ascending(self):
        self.assertEqual(plain_models(((2, 5), (), ())), [(-2, -5), (-2, 5), (2, -5), (2, 5)])
        self.assertEqual(plain_models(((1, 2, 3), (), ((-2, -3), (1, 2)))),
                         [(-1, 2, -3), (1, -2, -3), (1, -2, 3), (1, 2, -3)])
        self.assertEqual(plain_models(((9, 10), (), ((9, 10),))), [(-9, 10), (9, -10), (9, 10)])

    def test_hidden_variables(self):
        self.assertEqual(plain_models(((1, 3), (2,), ((1, 2), (-2, 3)))), [(-1, 3), (1, -3), (1, 3)])
        self.assertEqual(plain_models(((1,), (2, 3), ((1, 2), (-2, 3), (-2, -3)))), [(1,)])
        self.assertEqual(plain_models(((5,), (2, 9), ())), [(-5,), (5,)])
        self.assertEqual(plain_models(((), (1, 2), ((1, 2),))), [()])
        self.assertEqual(plain_models(((), (1,), ((-1,), (1,)))), [])

    def test_the_empty_clause(self):
        self.assertEqual(plain_models(((1, 2), (), ((),))), [])
        self.assertEqual(plain_models(((1,), (2,), ((), (1, 2)))), [])
        self.assertEqual(plain_models(((), (), ((),))), [])

    def test_no_clause(self):
        self.assertEqual(plain_models(((), (), ())), [()])
        self.assertEqual(plain_models(((4,), (), ())), [(-4,), (4,)])

    def test_some_formulas(self):
        source = random.Random(34)
        for _ in range(400):
            formula = some_formula(source)
            self.assertEqual(plain_models(formula), slow_models(formula))

    def test_sixteen_variables(self):
        formula = ((1, 2, 3, 4, 5, 6, 7, 8, 10, 11, 12, 13, 14, 16), (9, 15),
                   tuple((-v, v + 1) for v in range(1, 16)))
        found = plain_models(formula)
        self.assertEqual(len(found), 15)
        self.assertEqual(found[0], tuple(-v for v in formula[0]))
        self.assertEqual(found[-1], formula[0])

    def test_kinds(self):
        found = plain_models(((1, 2), (3,), ((1, 3),)))
        self.assertIsInstance(found, list)
        for filling in found:
            self.assertIsInstance(filling, tuple)


class Sums(unittest.TestCase):
    def test_without_weights(self):
        self.assertEqual(plain_sum(((1, 2, 3), (), ((-2, -3), (1, 2))), ()), (4, 1))
        self.assertEqual(plain_sum(((1,), (2, 3), ()), ()), (2, 1))
        self.assertEqual(plain_sum(((), (), ()), ()), (1, 1))
        self.assertEqual(plain_sum(((), (), ((),)), ()), (0, 1))
        self.assertEqual(plain_sum(((1, 2), (), ((),)), ((1, (1, 2)),)), (0, 1))

    def test_weights(self):
        formula = ((1, 2), (3,), ((1, 2), (1, 3)))
        self.assertEqual(plain_sum(formula, ((1, (1, 3)),)), (5, 3))
        self.assertEqual(plain_sum(formula, ((-1, (1, 2)), (1, (1, 3)), (2, (5, 1)))), (9, 2))
        self.assertEqual(plain_sum(formula, ((-1, (0, 1)),)), (2, 1))
        self.assertEqual(plain_sum(formula, ((-1, (0, 1)), (1, (0, 1)))), (0, 1))
        self.assertEqual(plain_sum(formula, ((1, (7, 2)), (2, (9, 4)))), (109, 8))

    def test_hidden_completions_count_once(self):
        self.assertEqual(plain_sum(((1,), (2, 3), ((1, 2, 3),)), ((1, (3, 1)),)), (4, 1))

    def test_some_formulas(self):
        source = random.Random(35)
        for _ in range(400):
            formula = some_formula(source)
            weights = some_weights(source, formula)
            self.assertEqual(plain_sum(formula, weights), slow_sum(formula, weights))

    def test_arguments_stay(self):
        formula = ((1, 2), (3,), ((1, 2), (-2, 3)))
        weights = ((1, (1, 3)),)
        before = copy.deepcopy((formula, weights))
        plain_sum(formula, weights)
        plain_models(formula)
        self.assertEqual((formula, weights), before)


if __name__ == "__main__":
    unittest.main()
