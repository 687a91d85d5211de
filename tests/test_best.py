"""Tests of [7.20]: the models of the greatest weights."""

import copy
import random
import unittest

from common import (Shallow, odd_formula, path_formula, ranked, some_formula, some_policy, some_weights, weight_in,
                    wild_sheet)
from countsworn.best import best, best_rows
from countsworn.clauses import residue_of
from countsworn.compiler import compile_sheet
from countsworn.errors import NoFilling, OpenSheet
from countsworn.fractions import product
from countsworn.plain import plain_models
from countsworn.policy import PLAIN, USUAL


def sheet_for(shown, hidden, clauses, policy=USUAL):
    return compile_sheet((shown, hidden, residue_of(clauses)), policy)


class Hand(unittest.TestCase):
    SHEET = sheet_for((1, 2), (), [(1, 2)])

    def test_one_weight_is_the_greatest(self):
        self.assertEqual(best(self.SHEET, ((1, (1, 2)),)), ((1, 1), (-1, 2)))
        self.assertEqual(best(self.SHEET, ((1, (3, 2)),)), ((3, 2), (1, -2)))
        self.assertEqual(best(self.SHEET, ((-1, (1, 3)), (-2, (1, 2)))), ((1, 1), (1, 2)))
        self.assertEqual(best_rows(self.SHEET, ((-1, (1, 3)), (-2, (1, 2))), 9),
                         [((1, 1), (1, 2)), ((1, 2), (1, -2)), ((1, 3), (-1, 2))])

    def test_ties(self):
        self.assertEqual(best(self.SHEET, ()), ((1, 1), (-1, 2)))
        self.assertEqual(best_rows(self.SHEET, (), 9), [((1, 1), (-1, 2)), ((1, 1), (1, -2)), ((1, 1), (1, 2))])
        self.assertEqual(best(self.SHEET, ((1, (2, 1)), (2, (2, 1)))), ((4, 1), (1, 2)))
        self.assertEqual(best(self.SHEET, ((-1, (1, 2)), (1, (1, 4)), (-2, (2, 1)))), ((1, 2), (-1, 2)))

    def test_ties_of_what_is_chosen_late(self):
        # The order chooses 3 first, but the least of equal models is told by 1.
        for policy in ((("row", (3, 2, 1)), False, False, False, False), (("row", (3, 1, 2)), True, True, True, True)):
            sheet = sheet_for((1, 2, 3), (), [(1, 3), (2, 3), (-1, -3)], policy)
            self.assertEqual(best(sheet, ()), ((1, 1), (-1, -2, 3)))
            self.assertEqual(best(sheet, ((-3, (2, 1)), (1, (1, 2)), (2, (1, 1)))), ((1, 1), (-1, -2, 3)))
            self.assertEqual([row[1] for row in best_rows(sheet, (), 9)], [(-1, -2, 3), (-1, 2, 3), (1, 2, -3)])

    def test_weights_of_nothing(self):
        # All weigh nothing: the least model, not one of the greatest weight elsewhere.
        weights = ((1, (1, 2)), (-3, (0, 1)), (3, (0, 1)))
        sheet = sheet_for((1, 2, 3), (), [(1, 2)])
        self.assertEqual(best(sheet, weights), ((0, 1), (-1, 2, -3)))
        sheet = sheet_for((1, 2, 3, 4), (), [(1, 2), (3, 4)])
        weights = ((3, (0, 1)), (4, (0, 1)), (-1, (1, 9)))
        self.assertEqual(best(sheet, weights), ((0, 1), (-1, 2, -3, 4)))
        rows = best_rows(sheet, ((2, (0, 1)), (3, (1, 2))), 20)
        self.assertEqual(rows[:4], [((1, 1), (1, -2, -3, 4)), ((1, 2), (1, -2, 3, -4)), ((1, 2), (1, -2, 3, 4)),
                                    ((0, 1), (-1, 2, -3, 4))])
        self.assertEqual([model for _, model in rows[3:]],
                         [(-1, 2, -3, 4), (-1, 2, 3, -4), (-1, 2, 3, 4), (1, 2, -3, 4), (1, 2, 3, -4), (1, 2, 3, 4)])

    def test_counts(self):
        weights = ((2, (1, 2)), (-1, (1, 3)))
        rows = best_rows(self.SHEET, weights, 3)
        self.assertEqual(len(rows), 3)
        self.assertIsInstance(rows, list)
        for count in range(7):
            self.assertEqual(best_rows(self.SHEET, weights, count), rows[:count])
        self.assertEqual(best_rows(self.SHEET, weights, 10 ** 30), rows)

    def test_no_models(self):
        for clauses in ([()], [(1,), (-1,)], [(-1, -2), (-1, 2), (1, -2), (1, 2)]):
            sheet = sheet_for((1, 2), (), clauses)
            with self.assertRaises(NoFilling):
                best(sheet, ())
            for count in (0, 1, 5):
                self.assertEqual(best_rows(sheet, (), count), [])

    def test_no_shown_variables(self):
        sheet = sheet_for((), (7, 8), [(7, 8)])
        self.assertEqual(best(sheet, ()), ((1, 1), ()))
        self.assertEqual(best_rows(sheet, (), 4), [((1, 1), ())])

    def test_hidden_variables_weigh_nothing(self):
        sheet = sheet_for((1, 2), (3,), [(1, 3), (2, -3)])
        self.assertEqual(best_rows(sheet, ((1, (1, 2)), (2, (1, 3))), 9),
                         [((1, 2), (1, -2)), ((1, 3), (-1, 2)), ((1, 6), (1, 2))])

    def test_open_sheets(self):
        sheet = compile_sheet(((1, 2), (), ((1, 2),)), USUAL, fuel=0)
        with self.assertRaises(OpenSheet):
            best(sheet, ())
        for count in (0, 1, 2):
            with self.assertRaises(OpenSheet):
                best_rows(sheet, (), count)
        # One that is not reached does not count.
        sheet = (sheet[0], sheet[1] + compile_sheet(((1, 2), (), ()), USUAL)[1])
        sheet = (((1, 2), (), ()), sheet[1])
        self.assertEqual(best(sheet, ()), ((1, 1), (-1, -2)))


class Tables(unittest.TestCase):
    def one(self, source, formula, sheet):
        weights = some_weights(source, formula)
        wanted = ranked(formula, weights)
        before = copy.deepcopy((sheet, weights))
        many = len(wanted)
        for count in (0, 1, 2, 3, source.randint(0, many), many - 1, many, many + 1, 10 ** 9):
            if count >= 0:
                self.assertEqual(best_rows(sheet, weights, count), wanted[:count])
        if many > 0:
            self.assertEqual(best(sheet, weights), wanted[0])
        else:
            with self.assertRaises(NoFilling):
                best(sheet, weights)
        self.assertEqual((sheet, weights), before)

    def test_sheets_of_the_compiler(self):
        source = random.Random(721)
        for _ in range(300):
            formula = some_formula(source)
            self.one(source, formula, compile_sheet(formula, some_policy(source)))

    def test_sheets_of_all_kinds(self):
        source = random.Random(722)
        for _ in range(400):
            formula = some_formula(source)
            self.one(source, formula, wild_sheet(source, formula))

    def test_few_weights_and_many_ties(self):
        source = random.Random(723)
        for _ in range(200):
            formula = some_formula(source, shown=6, clauses=8)
            weights = tuple((l, source.choice([(0, 1), (1, 2), (2, 1)])) for v in formula[0] for l in (-v, v))
            sheet = compile_sheet(formula, some_policy(source))
            self.assertEqual(best_rows(sheet, weights, 100), ranked(formula, weights))


class Large(unittest.TestCase):
    def test_a_long_row(self):
        formula = path_formula(999)
        sheet = compile_sheet(formula, USUAL)
        with Shallow():
            found, filling = best(sheet, ())
            self.assertEqual(found, (1, 1))
            self.assertEqual(filling, tuple(v if v % 2 == 0 else -v for v in range(1, 1000)))
            weights = tuple((v, (1, 2)) for v in range(1, 1000))
            found, filling = best(sheet, weights)
            self.assertEqual(found, (1, 2 ** 499))
            self.assertEqual(filling, tuple(v if v % 2 == 0 else -v for v in range(1, 1000)))
            rows = best_rows(sheet, weights, 20)
            self.assertEqual(len(rows), 20)
            self.assertEqual(rows[0], (found, filling))
            for weight, model in rows:
                self.assertEqual(weight, weight_in(weights, model))
            self.assertEqual(rows[1][0], (1, 2 ** 500))
            self.assertTrue(all(rows[at][1] != rows[at - 1][1] for at in range(1, 20)))

    def test_variables_in_no_clause(self):
        shown = tuple(range(1, 1000))
        sheet = compile_sheet((shown, (), ()), USUAL)
        weights = tuple((v, (v + 1, v)) for v in shown)
        rows = best_rows(sheet, weights, 4)
        self.assertEqual(rows[0], ((1000, 1), shown))
        # Taken out one after the other: what weighs least more than 1.
        self.assertEqual([[l for l in model if l < 0] for _, model in rows], [[], [-999], [-998], [-997]])
        self.assertEqual(rows[2][0], product([weight for v, weight in weights if v != 998]))

    def test_many_models(self):
        formula = odd_formula(14)
        sheet = compile_sheet(formula, PLAIN)
        rows = best_rows(sheet, ((-3, (1, 2)), (14, (0, 1))), 5)
        wanted = [model for model in plain_models_of_odd(14) if 3 in model and -14 in model][:5]
        self.assertEqual(rows, [((1, 1), model) for model in wanted])
        self.assertEqual(best_rows(sheet, tuple((-v, (0, 1)) for v in range(1, 14)), 3),
                         [((1, 1), tuple(range(1, 14)) + (-14,)), ((0, 1), tuple(-v for v in range(1, 14)) + (14,)),
                          ((0, 1), tuple(-v for v in range(1, 13)) + (13, -14))])


def plain_models_of_odd(many):
    """The models of odd_formula, ascending."""
    return [model for model in plain_models((tuple(range(1, many + 1)), (), ()))
            if sum(literal > 0 for literal in model) % 2 == 1]


if __name__ == "__main__":
    unittest.main()
