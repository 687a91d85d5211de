"""Tests of [9.3]: the keeper."""

import copy
import random
import unittest

from common import every_policy, path_formula, some_clause, some_formula, some_policy, some_weights
from countsworn.checker import refusal
from countsworn.clauses import residue_of
from countsworn.compiler import compile_sheet
from countsworn.errors import ChangeError, PolicyError
from countsworn.keeper import Keeper
from countsworn.plain import plain_sum
from countsworn.policy import PLAIN, USUAL
from countsworn.sheets import is_open, reached


class Hand(unittest.TestCase):
    FORMULA = ((1, 2, 3), (4,), residue_of([(1, 2), (-2, 4)]))

    def test_a_formula_as_it_stands(self):
        keeper = Keeper(self.FORMULA, USUAL)
        self.assertEqual(keeper.sheet_now()[0], self.FORMULA)
        self.assertIsNone(refusal(self.FORMULA, keeper.sheet_now()))
        self.assertEqual(keeper.total(()), (6, 1))
        self.assertEqual(keeper.total(((1, (1, 2)), (-3, (0, 1)))), (2, 1))

    def test_the_sheet_is_that_of_the_compiler(self):
        for policy in every_policy():
            cached = (policy[0], policy[1], True, policy[3], policy[4])
            keeper = Keeper(self.FORMULA, policy)
            self.assertEqual(keeper.sheet_now(), compile_sheet(self.FORMULA, cached))
            self.assertEqual(keeper.nodes_made(), len(keeper.sheet_now()[1]))

    def test_put_and_take(self):
        keeper = Keeper(self.FORMULA, USUAL)
        keeper.put((-1, -3))
        wanted = (self.FORMULA[0], self.FORMULA[1], residue_of([(1, 2), (-2, 4), (-1, -3)]))
        self.assertEqual(keeper.sheet_now()[0], wanted)
        self.assertEqual(keeper.total(()), plain_sum(wanted, ()))
        keeper.take((1, 2))
        wanted = (self.FORMULA[0], self.FORMULA[1], residue_of([(-2, 4), (-1, -3)]))
        self.assertEqual(keeper.sheet_now()[0], wanted)
        self.assertEqual(keeper.total(()), plain_sum(wanted, ()))
        keeper.put(())
        self.assertEqual(keeper.total(()), (0, 1))
        keeper.take(())
        self.assertEqual(keeper.total(()), plain_sum(wanted, ()))

    def test_nodes_are_used_again(self):
        keeper = Keeper(self.FORMULA, USUAL)
        first = keeper.sheet_now()
        made = keeper.nodes_made()
        self.assertEqual(made, len(first[1]))
        for _ in range(3):
            self.assertEqual(keeper.sheet_now(), first)
            keeper.total(())
            self.assertEqual(keeper.nodes_made(), made)
        keeper.put((-1, -3))
        second = keeper.sheet_now()
        both = keeper.nodes_made()
        self.assertEqual(both, len({node[0] for node in first[1] + second[1]}))
        self.assertLess(both, len(first[1]) + len(second[1]))
        keeper.take((-1, -3))
        self.assertEqual(keeper.sheet_now(), first)
        keeper.put((-1, -3))
        self.assertEqual(keeper.sheet_now()[0], second[0])
        self.assertEqual(keeper.nodes_made(), both)

    def test_a_formula_that_stood_without_being_asked_for(self):
        keeper = Keeper(self.FORMULA, USUAL)
        keeper.put((-1, -3))
        keeper.put((3,))
        made = keeper.nodes_made()
        keeper.sheet_now()
        keeper.take((3,))
        keeper.sheet_now()
        keeper.take((-1, -3))
        keeper.sheet_now()
        self.assertEqual(keeper.nodes_made(), made)

    def test_refused_changes_change_nothing(self):
        keeper = Keeper(self.FORMULA, USUAL)
        sheet = keeper.sheet_now()
        made = keeper.nodes_made()
        for clause in ((1, 2), (-2, 4), (5,), (1, -9)):
            with self.assertRaises(ChangeError):
                keeper.put(clause)
        for clause in ((), (1,), (2,), (1, 2, 3), (-1, 2), (7,)):
            with self.assertRaises(ChangeError):
                keeper.take(clause)
        self.assertEqual(keeper.sheet_now(), sheet)
        self.assertEqual(keeper.nodes_made(), made)
        self.assertEqual(keeper.total(()), (6, 1))

    def test_no_policy(self):
        for policy in (None, (), "most", PLAIN[:4], (("row", (1, 1)), True, True, True, True), list(USUAL),
                       (("least",), True, 1, True, True)):
            with self.assertRaises(PolicyError):
                Keeper(self.FORMULA, policy)

    def test_as_much_fuel_as_it_takes(self):
        formula = path_formula(60)
        keeper = Keeper(formula, PLAIN)
        self.assertFalse(is_open(keeper.sheet_now()))


class Many(unittest.TestCase):
    def test_many_orders(self):
        source = random.Random(931)
        for turn in range(60):
            formula = some_formula(source, clauses=8)
            policy = some_policy(source)
            before = copy.deepcopy((formula, policy))
            keeper = Keeper(formula, policy)
            now = formula
            stood = {formula[2]: True}
            made = keeper.nodes_made()
            for step in range(12):
                known = list(formula[0] + formula[1])
                clause = some_clause(source, known, (0, 1, 2, 2, 3)) if source.random() < 0.6 else None
                if clause is not None and clause not in now[2]:
                    keeper.put(clause)
                    now = (now[0], now[1], residue_of(list(now[2]) + [clause]))
                elif now[2]:
                    clause = source.choice(now[2])
                    keeper.take(clause)
                    now = (now[0], now[1], tuple(other for other in now[2] if other != clause))
                sheet = keeper.sheet_now()
                self.assertEqual(sheet[0], now)
                self.assertIsNone(refusal(now, sheet))
                self.assertEqual(reached(sheet), list(range(len(sheet[1]))))
                self.assertIs(is_open(sheet), False)
                weights = some_weights(source, formula)
                self.assertEqual(keeper.total(weights), plain_sum(now, weights))
                if now[2] in stood:
                    self.assertEqual(keeper.nodes_made(), made)
                made = keeper.nodes_made()
                stood[now[2]] = True
            self.assertEqual((formula, policy), before)

    def test_what_stood_before_makes_no_nodes(self):
        source = random.Random(932)
        for turn in range(40):
            formula = some_formula(source)
            keeper = Keeper(formula, some_policy(source))
            keeper.sheet_now()
            known = list(formula[0] + formula[1])
            for _ in range(5):
                clause = some_clause(source, known, (1, 2, 3))
                if clause not in formula[2]:
                    keeper.put(clause)
                    keeper.sheet_now()
                    made = keeper.nodes_made()
                    for _ in range(2):
                        keeper.take(clause)
                        keeper.sheet_now()
                        keeper.total(())
                        keeper.put(clause)
                        keeper.sheet_now()
                    self.assertEqual(keeper.nodes_made(), made)
                    keeper.take(clause)


if __name__ == "__main__":
    unittest.main()
