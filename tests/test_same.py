"""Tests of [9.4]: where the models of two formulas part, and whether one has all those of the other."""

import copy
import random
import unittest

from common import Shallow, keyed, odd_formula, path_formula, some_clause, some_formula
from countsworn.changes import hide
from countsworn.clauses import residue_of
from countsworn.encode import encode
from countsworn.plain import plain_models
from countsworn.same import implies, parting


def formula_of(shown, hidden, clauses):
    return (shown, hidden, residue_of(clauses))


class Hand(unittest.TestCase):
    def both_ways(self, first, second, wanted, forth, back):
        before = copy.deepcopy((first, second))
        self.assertEqual(parting(first, second), wanted)
        self.assertEqual(parting(second, first), wanted)
        self.assertIs(implies(first, second), forth)
        self.assertIs(implies(second, first), back)
        self.assertEqual((first, second), before)

    def test_the_same_models_in_other_clauses(self):
        first = formula_of((1, 2, 3), (), [(1, 2), (-2, 3)])
        second = formula_of((1, 2, 3), (), [(1, 2), (1, 3), (-2, 3)])
        self.both_ways(first, second, None, True, True)
        self.both_ways(first, first, None, True, True)

    def test_one_less(self):
        first = formula_of((1, 2), (), [(1, 2)])
        self.both_ways(first, formula_of((1, 2), (), [(1, 2), (-1, -2)]), (1, 2), False, True)
        self.both_ways(first, formula_of((1, 2), (), []), (-1, -2), True, False)
        self.both_ways(first, formula_of((1, 2), (), [(1,)]), (-1, 2), False, True)

    def test_each_has_its_own(self):
        self.both_ways(formula_of((1, 2), (), [(1,)]), formula_of((1, 2), (), [(2,)]), (-1, 2), False, False)
        self.both_ways(formula_of((4, 9), (), [(4,), (-9,)]), formula_of((4, 9), (), [(4,), (9,)]), (4, -9), False, False)
        # The least one is told by the first variable, wherever it is a model.
        self.both_ways(formula_of((1, 2, 3), (), [(-1,), (2,), (3,)]), formula_of((1, 2, 3), (), [(1,), (-2,), (-3,)]),
                       (-1, 2, 3), False, False)

    def test_hidden_variables_of_one_alone(self):
        first = formula_of((1, 2), (3,), [(1, 3), (2, -3)])
        self.both_ways(first, formula_of((1, 2), (), [(1, 2)]), None, True, True)
        self.both_ways(first, formula_of((1, 2), (), [(1,)]), (-1, 2), False, True)

    def test_hidden_variables_of_the_same_name(self):
        first = formula_of((1, 2), (3,), [(1, 3), (2, -3)])
        self.both_ways(first, formula_of((1, 2), (3,), [(1, -3), (2, 3)]), None, True, True)
        # Each hidden variable could be either, but not both at once.
        self.both_ways(formula_of((1,), (3,), [(3,)]), formula_of((1,), (3,), [(-3,)]), None, True, True)
        self.both_ways(formula_of((1,), (3,), [(-1, 3), (1, -3)]), formula_of((1,), (3,), [(-1, -3), (1, 3)]), None, True,
                       True)
        self.both_ways(formula_of((1,), (3,), [(1, 3), (-3,)]), formula_of((1,), (3,), [(-1, -3), (3,)]), (-1,), False,
                       False)

    def test_without_models(self):
        none = formula_of((1, 2), (), [()])
        self.both_ways(none, formula_of((1, 2), (3,), [(3,), (-3,)]), None, True, True)
        self.both_ways(none, formula_of((1, 2), (), [(1,), (2,)]), (1, 2), True, False)
        self.both_ways(none, formula_of((1, 2), (), []), (-1, -2), True, False)

    def test_without_shown_variables(self):
        some, none = formula_of((), (1,), [(1,)]), formula_of((), (1,), [(-1,), (1,)])
        self.both_ways(some, formula_of((), (), []), None, True, True)
        self.both_ways(some, none, (), False, True)
        self.both_ways(none, formula_of((), (), [()]), None, True, True)


class Tables(unittest.TestCase):
    def one(self, first, second):
        before = copy.deepcopy((first, second))
        here, there = plain_models(first), plain_models(second)
        apart = sorted(set(here) ^ set(there), key=keyed)
        self.assertEqual(parting(first, second), apart[0] if apart else None)
        self.assertIs(implies(first, second), set(here) <= set(there))
        self.assertIs(implies(second, first), set(there) <= set(here))
        self.assertEqual((first, second), before)

    def test_formulas_that_differ_little(self):
        source = random.Random(941)
        for turn in range(250):
            first = some_formula(source)
            rows = list(first[2])
            if rows and source.random() < 0.5:
                rows.remove(source.choice(rows))
            known = list(first[0] + first[1])
            if source.random() < 0.7:
                rows.append(some_clause(source, known, (2, 3)))
            self.one(first, (first[0], first[1], residue_of(rows)))

    def test_formulas_with_other_hidden_variables(self):
        source = random.Random(942)
        for turn in range(250):
            first = some_formula(source)
            free = [v for v in range(1, 15) if v not in first[0]]
            hidden = tuple(sorted(source.sample(free, source.randint(0, 3))))
            rows = [clause for clause in first[2] if all(abs(l) in first[0] + hidden for l in clause)]
            rows += [some_clause(source, list(first[0] + hidden), (2, 3)) for _ in range(source.randint(0, 2))]
            self.one(first, (first[0], hidden, residue_of(rows)))


class Large(unittest.TestCase):
    def test_a_long_row(self):
        first = path_formula(400)
        second = (first[0], (), residue_of(list(first[2]) + [(-200, -300)]))
        with Shallow():
            self.assertIsNone(parting(first, first))
            self.assertEqual(parting(first, second), tuple(v if v % 2 == 0 else -v for v in range(1, 401)))
            self.assertIs(implies(second, first), True)
            self.assertIs(implies(first, second), False)

    def test_no_room_for_new_names(self):
        # All 999 variables are there already, and the hidden ones of both have the same names.
        shown = tuple(range(1, 11))
        hidden = tuple(range(11, 1000))
        rows = [(v, v + 1) for v in range(1, 10)] + [(10, 11), (10, -11)]
        rows += [clause for v in range(11, 999) for clause in ((-v, v + 1), (v, -v - 1))]
        rows = [tuple(sorted(row, key=abs)) for row in rows]
        first = (shown, hidden, residue_of(rows))
        second = (shown, hidden, residue_of(rows + [(10, 999)]))
        third = (shown, hidden, residue_of(rows + [(9,)]))
        self.assertIsNone(parting(first, second))
        self.assertIs(implies(first, third), False)
        self.assertIs(implies(third, first), True)
        self.assertEqual(parting(first, third), (-1, 2, -3, 4, -5, 6, -7, 8, -9, 10))

    def test_expressions(self):
        shown = tuple(range(1, 13))
        one = odd_formula(12)
        other = encode([("not", ("iff", ("var", 12), hold(11)))], shown)
        self.assertIsNone(parting(one, other))
        self.assertEqual(parting(one, encode([hold(11)], shown)), tuple(-v for v in range(1, 12)) + (12,))
        self.assertIsNone(parting(hide(one, [5]), hide(other, [5])))


def hold(many):
    """An expression that holds if an odd number of the first so many variables does."""
    found = ("var", 1)
    for v in range(2, many + 1):
        found = ("xor", found, ("var", v))
    return found


if __name__ == "__main__":
    unittest.main()
