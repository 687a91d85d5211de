"""Tests of [7.21] and [7.22]: the models in ascending order, and the one at a share."""

import copy
import inspect
import itertools
import random
import unittest
from fractions import Fraction

from common import (Shallow, drawn, keyed, odd_formula, pair_of, path_counts, path_formula, some_formula, some_policy,
                    some_weights, weight_in, wild_sheet)
from countsworn.clauses import residue_of
from countsworn.compiler import compile_sheet
from countsworn.errors import NoFilling, OpenSheet
from countsworn.order import draw_at, model_at, model_count, models, number_of
from countsworn.plain import fillings_of, plain_models
from countsworn.policy import PLAIN, USUAL

HALF = (1, 2)


def sheet_for(shown, hidden, clauses, policy=USUAL):
    return compile_sheet((shown, hidden, residue_of(clauses)), policy)


class Hand(unittest.TestCase):
    SHEET = sheet_for((1, 2, 3), (), [(1, 2), (-1, -3)])
    MODELS = [(-1, 2, -3), (-1, 2, 3), (1, -2, -3), (1, 2, -3)]

    def test_numbers(self):
        self.assertEqual(model_count(self.SHEET), 4)
        self.assertEqual([model_at(self.SHEET, k) for k in range(4)], self.MODELS)
        self.assertEqual([number_of(self.SHEET, model) for model in self.MODELS], [0, 1, 2, 3])
        self.assertEqual(list(models(self.SHEET)), self.MODELS)
        self.assertTrue(all(isinstance(model, tuple) for model in models(self.SHEET)))

    def test_numbers_that_do_not_exist(self):
        for k in (-1, -2, -4, -5, 4, 5, 1000, 10 ** 40, -10 ** 40):
            with self.assertRaises(NoFilling):
                model_at(self.SHEET, k)

    def test_fillings_that_are_no_models(self):
        for filling in fillings_of((1, 2, 3)):
            self.assertEqual(number_of(self.SHEET, filling),
                             self.MODELS.index(filling) if filling in self.MODELS else -1)

    def test_a_generator(self):
        self.assertTrue(inspect.isgenerator(models(self.SHEET)))
        rows = models(self.SHEET)
        self.assertEqual([next(rows), next(rows)], self.MODELS[:2])
        self.assertEqual(list(rows), self.MODELS[2:])
        # Two of them do not get in each other's way.
        self.assertEqual(list(zip(models(self.SHEET), models(self.SHEET))), list(zip(self.MODELS, self.MODELS)))

    def test_no_models(self):
        for clauses in ([()], [(1,), (-1,)]):
            sheet = sheet_for((1, 2), (), clauses)
            self.assertEqual(model_count(sheet), 0)
            self.assertEqual(list(models(sheet)), [])
            self.assertEqual(number_of(sheet, (1, 2)), -1)
            for k in (0, -1, 1):
                with self.assertRaises(NoFilling):
                    model_at(sheet, k)
            for share in ((0, 1), HALF):
                with self.assertRaises(NoFilling):
                    draw_at(sheet, (), share)

    def test_no_shown_variables(self):
        sheet = sheet_for((), (1,), [(1,)])
        self.assertEqual((model_count(sheet), list(models(sheet)), model_at(sheet, 0)), (1, [()], ()))
        self.assertEqual((number_of(sheet, ()), draw_at(sheet, (), HALF)), (0, ()))
        with self.assertRaises(NoFilling):
            model_at(sheet, 1)
        sheet = sheet_for((), (1,), [()])
        self.assertEqual((model_count(sheet), list(models(sheet)), number_of(sheet, ())), (0, [], -1))

    def test_hidden_variables_count_once(self):
        sheet = sheet_for((2, 5), (1, 3), [(1, 2, 3)])
        self.assertEqual(model_count(sheet), 4)
        self.assertEqual(list(models(sheet)), fillings_of((2, 5)))

    def test_open_sheets(self):
        for fuel, clauses in ((0, [(1, 2)]), (1, [(1, 2, 3)])):
            sheet = compile_sheet(((1, 2, 3), (), residue_of(clauses)), PLAIN, fuel=fuel)
            for function in (lambda: model_count(sheet), lambda: model_at(sheet, 0), lambda: model_at(sheet, -1),
                             lambda: number_of(sheet, (1, 2, 3)), lambda: list(models(sheet)),
                             lambda: draw_at(sheet, (), HALF), lambda: draw_at(sheet, ((1, (0, 1)),), (0, 1))):
                with self.assertRaises(OpenSheet):
                    function()

    def test_open_nodes_that_are_not_reached(self):
        nodes = ((((1, 2),), ("open",)),) + self.SHEET[1]
        shifted = sheet_for((1, 2, 3), (), [])
        sheet = (shifted[0], nodes[:1] + shifted[1])
        self.assertEqual(model_count(sheet), 8)
        self.assertEqual(model_at(sheet, 5), (1, -2, 3))


class Draws(unittest.TestCase):
    SHEET = Hand.SHEET
    MODELS = Hand.MODELS

    def test_equal_weights(self):
        for n, at in ((0, 0), (1, 0), (2, 0), (3, 1), (5, 1), (6, 2), (8, 2), (9, 3), (11, 3)):
            self.assertEqual(draw_at(self.SHEET, (), pair_of(Fraction(n, 12))), self.MODELS[at], n)

    def test_beginnings_belong_and_ends_do_not(self):
        weights = ((2, (1, 3)), (-3, (1, 2)), (1, (5, 1)))
        sizes = [Fraction(*weight_in(weights, model)) for model in self.MODELS]
        whole = sum(sizes)
        self.assertEqual(sizes, [Fraction(1, 6), Fraction(1, 3), Fraction(5, 2), Fraction(5, 6)])
        start = Fraction(0)
        tiny = Fraction(1, 10 ** 30)
        for at, size in enumerate(sizes):
            for share in (start / whole, start / whole + tiny, (start + size / 2) / whole,
                          (start + size) / whole - tiny):
                self.assertEqual(draw_at(self.SHEET, weights, pair_of(share)), self.MODELS[at])
            start += size

    def test_models_without_weight_are_never_drawn(self):
        weights = ((-2, (0, 1)), (3, (0, 1)))
        for n, at in ((0, 0), (1, 0), (11, 0), (12, 3), (23, 3)):
            self.assertEqual(draw_at(self.SHEET, weights, pair_of(Fraction(n, 24))), self.MODELS[at], n)
        for n in range(8):
            self.assertEqual(draw_at(self.SHEET, ((-1, (0, 1)), (2, (0, 1))), pair_of(Fraction(n, 8))), self.MODELS[2])
            self.assertEqual(draw_at(self.SHEET, ((1, (0, 1)), (-3, (0, 1))), pair_of(Fraction(n, 8))), self.MODELS[1])

    def test_a_sum_of_nothing(self):
        for weights in (((-1, (0, 1)), (1, (0, 1))), ((2, (0, 1)), (-3, (0, 1)), (-2, (0, 1))),
                        ((-1, (0, 1)), (-2, (0, 1)), (-3, (0, 1)))):
            if sum(Fraction(*weight_in(weights, model)) for model in self.MODELS) == 0:
                for share in ((0, 1), HALF, (99, 100)):
                    with self.assertRaises(NoFilling):
                        draw_at(self.SHEET, weights, share)

    def test_shares_are_the_weights(self):
        weights = ((1, (1, 2)), (3, (2, 1)))
        found = [draw_at(self.SHEET, weights, pair_of(Fraction(n, 400))) for n in range(400)]
        self.assertEqual([found.count(model) for model in self.MODELS], [100, 200, 50, 50])
        self.assertEqual(found, sorted(found, key=keyed))


class Tables(unittest.TestCase):
    def one(self, source, formula, sheet):
        wanted = plain_models(formula)
        before = copy.deepcopy(sheet)
        self.assertEqual(model_count(sheet), len(wanted))
        self.assertEqual(list(models(sheet)), wanted)
        self.assertEqual(wanted, sorted(wanted, key=keyed))
        for k, model in enumerate(wanted):
            self.assertEqual(model_at(sheet, k), model)
        for filling in fillings_of(formula[0]):
            self.assertEqual(number_of(sheet, filling), wanted.index(filling) if filling in wanted else -1)
        for k in (-1, len(wanted), len(wanted) + 1):
            with self.assertRaises(NoFilling):
                model_at(sheet, k)
        weights = some_weights(source, formula)
        sizes = [Fraction(*weight_in(weights, model)) for model in wanted]
        ends = [end / sum(sizes) for end in itertools.accumulate(sizes)] if sum(sizes) else []
        shares = [Fraction(0), Fraction(source.randint(0, 99), 100)]
        for end in ends[:-1]:
            shares += [end, end - Fraction(1, 10 ** 20), end + Fraction(1, 10 ** 20)]
        for share in shares:
            if sum(sizes) == 0:
                with self.assertRaises(NoFilling):
                    draw_at(sheet, weights, pair_of(share))
            elif 0 <= share < 1:
                self.assertEqual(draw_at(sheet, weights, pair_of(share)), drawn(formula, weights, pair_of(share)))
        self.assertEqual(sheet, before)

    def test_sheets_of_the_compiler(self):
        source = random.Random(731)
        for _ in range(120):
            formula = some_formula(source)
            self.one(source, formula, compile_sheet(formula, some_policy(source)))

    def test_sheets_of_all_kinds(self):
        source = random.Random(732)
        for _ in range(150):
            formula = some_formula(source)
            self.one(source, formula, wild_sheet(source, formula))


class Large(unittest.TestCase):
    def row(self, many, policy):
        formula = path_formula(many)
        whole = path_counts(many)
        sheet = compile_sheet(formula, policy)
        every = tuple(range(1, many + 1))
        self.assertEqual(model_count(sheet), whole)
        self.assertEqual(model_at(sheet, whole - 1), every)
        self.assertEqual(model_at(sheet, path_counts(many - 2))[:3], (1, -2, 3))
        self.assertEqual(number_of(sheet, model_at(sheet, whole // 3)), whole // 3)
        with self.assertRaises(NoFilling):
            model_at(sheet, whole)
        self.assertEqual(number_of(sheet, tuple(-v for v in every)), -1)
        first = list(itertools.islice(models(sheet), 30))
        self.assertEqual(first[0], tuple(v if v % 2 == 0 else -v for v in every))
        self.assertEqual(first, sorted(first, key=keyed))
        self.assertEqual(first[17], model_at(sheet, 17))
        self.assertEqual(draw_at(sheet, (), (29, whole)), first[29])
        self.assertEqual(draw_at(sheet, (), (whole - 1, whole)), every)
        self.assertEqual(draw_at(sheet, (), (10 * whole - 11, 10 * whole)), model_at(sheet, whole - 2))

    def test_a_long_row(self):
        with Shallow():
            self.row(999, USUAL)

    def test_a_row_far_down(self):
        with Shallow():
            self.row(401, (("least",), False, True, False, False))

    def test_many_nodes(self):
        formula = odd_formula(12)
        sheet = compile_sheet(formula, PLAIN)
        self.assertEqual(model_count(sheet), 2 ** 11)
        found = list(models(sheet))
        self.assertEqual(found, [row for row in fillings_of(formula[0]) if sum(l > 0 for l in row) % 2 == 1])
        self.assertEqual([number_of(sheet, model) for model in found[::211]], list(range(0, 2 ** 11, 211)))

    def test_variables_in_no_clause(self):
        shown = tuple(range(1, 1000))
        sheet = compile_sheet((shown, (), ()), USUAL)
        self.assertEqual(model_count(sheet), 2 ** 999)
        model = model_at(sheet, 5)
        self.assertEqual(model, tuple(-v for v in range(1, 997)) + (997, -998, 999))
        self.assertEqual(number_of(sheet, model), 5)
        self.assertEqual(draw_at(sheet, ((999, (0, 1)),), (5, 2 ** 998))[-4:], (996, -997, 998, -999))


if __name__ == "__main__":
    unittest.main()
