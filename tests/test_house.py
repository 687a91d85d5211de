"""Tests of [11.1] and [11.2]: the house."""

import copy
import random
import unittest
from fractions import Fraction

from common import (drawn, every_policy, given_models, pair_of, path_counts, path_formula, ranked, some_clause,
                    some_formula, some_policy, some_weights, sums_by_literal, told_formula, weight_in)
from countsworn.clauses import literal_key, residue_of
from countsworn.compiler import compile_sheet, decisions
from countsworn.errors import ChangeError, NoFilling, PolicyError
from countsworn.fractions import over, rounded, show_fraction
from countsworn.house import House
from countsworn.plain import plain_sum
from countsworn.policy import PLAIN, USUAL
from countsworn.walks import bounds

FORMULA = ((1, 2, 3), (4,), residue_of([(1, 2), (-1, 4), (3, -4)]))
WEIGHTS = ((1, (1, 3)), (-2, (1, 2)))
# Its models: -1 2 -3, -1 2 3, 1 -2 3, 1 2 3, of the weights 1, 1, 1/6, 1/3.


class Made(unittest.TestCase):
    def test_a_new_house(self):
        house = House(FORMULA, WEIGHTS)
        self.assertEqual(house.told, ())
        self.assertEqual(house.count(), 4)
        self.assertEqual(house.total(), (5, 2))

    def test_formulas_with_faults(self):
        for formula in (None, (), [], "abc", ((1, 2), (2,), ()), ((2, 1), (), ()), ((1,), (), ((2,),)),
                        ((1,), (), ((1,), (-1,))), ((1,), (), [(1,)]), ((True,), (), ()), ((1,), (), ((1, 1),))):
            with self.assertRaises(ChangeError):
                House(formula, ())
            with self.assertRaises(ChangeError):
                House(formula, (), policy=None)

    def test_weights_that_are_none(self):
        for weights in (None, [], 5, ((1, (1, 2)), (-1, (1, 2))), ((1, (1, 2)), (1, (1, 2))), ((4, (1, 2)),),
                        ((5, (1, 2)),), ((1, (2, 4)),), ((1, (-1, 2)),), ((1, (1, 0)),), ((1, 1),), ((True, (1, 2)),),
                        ((1, (True, 2)),), ((1, (1, 2)), (0, (1, 2))), [(1, (1, 2))]):
            with self.assertRaises(ChangeError):
                House(FORMULA, weights)

    def test_no_policy(self):
        for policy in (None, (), "usual", PLAIN[:4], (("row", (1, 1)), True, True, True, True), list(USUAL)):
            with self.assertRaises(PolicyError):
                House(FORMULA, WEIGHTS, policy=policy)

    def test_policy_is_a_keyword(self):
        with self.assertRaises(TypeError):
            House(FORMULA, WEIGHTS, USUAL)
        self.assertEqual(House(FORMULA, WEIGHTS, policy=PLAIN).total(), (5, 2))


class Hand(unittest.TestCase):
    def setUp(self):
        self.house = House(FORMULA, WEIGHTS)

    def test_put_and_take(self):
        self.house.put((-1, -2))
        self.assertEqual((self.house.count(), self.house.total()), (3, (13, 6)))
        self.house.take((1, 2))
        self.assertEqual((self.house.count(), self.house.total()), (5, (19, 6)))
        self.house.take((-1, -2))
        self.house.put((1, 2))
        self.assertEqual((self.house.count(), self.house.total()), (4, (5, 2)))
        self.house.put(())
        self.assertEqual((self.house.count(), self.house.total()), (0, (0, 1)))
        self.house.take(())
        self.assertEqual((self.house.count(), self.house.total()), (4, (5, 2)))

    def test_put_and_take_refused(self):
        for clause in ((1, 2), (-1, 4), (5,), (1, -9)):
            with self.assertRaises(ChangeError):
                self.house.put(clause)
        for clause in ((), (1,), (2, 3), (7,)):
            with self.assertRaises(ChangeError):
                self.house.take(clause)
        self.assertEqual((self.house.count(), self.house.total()), (4, (5, 2)))

    def test_weigh(self):
        self.house.weigh(1, (2, 1))
        self.assertEqual(self.house.total(), (5, 1))
        self.house.weigh(-2, (1, 1))
        self.assertEqual(self.house.total(), (6, 1))
        self.house.weigh(-3, (0, 1))
        self.assertEqual(self.house.total(), (5, 1))
        self.assertEqual(self.house.count(), 4)
        self.house.weigh(-3, (1, 2))
        self.assertEqual(self.house.total(), (11, 2))

    def test_weigh_refused(self):
        for literal in (4, -4, 5, 999, 1000, 0):
            with self.assertRaises(ChangeError):
                self.house.weigh(literal, (1, 2))
        for weight in ((-1, 2), (2, 4), (1, 0), (1, -2), (0, 2), 1, None, "1/2", (1,), (1, 2, 3), [1, 2], (True, 1),
                       (1, True), (1.0, 2), 0.5):
            with self.assertRaises(ChangeError):
                self.house.weigh(1, weight)
        self.assertEqual(self.house.total(), (5, 2))

    def test_tell_and_untell(self):
        self.house.tell(3)
        self.assertEqual((self.house.told, self.house.count(), self.house.total()), ((3,), 3, (3, 2)))
        self.house.tell(-1)
        self.assertEqual((self.house.told, self.house.count(), self.house.total()), ((-1, 3), 1, (1, 1)))
        self.house.untell(3)
        self.assertEqual((self.house.told, self.house.count(), self.house.total()), ((-1,), 2, (2, 1)))
        self.house.tell(-2)
        self.assertEqual((self.house.told, self.house.count(), self.house.total()), ((-1, -2), 0, (0, 1)))
        self.house.untell(-1)
        self.house.untell(-2)
        self.assertEqual((self.house.told, self.house.count(), self.house.total()), ((), 4, (5, 2)))
        self.assertIsInstance(self.house.told, tuple)

    def test_tell_and_untell_refused(self):
        self.house.tell(-1)
        for literal in (1, -1, 4, -4, 5, -999, 1000):
            with self.assertRaises(ChangeError):
                self.house.tell(literal)
        for literal in (1, 2, -2, 4, 5):
            with self.assertRaises(ChangeError):
                self.house.untell(literal)
        self.assertEqual((self.house.told, self.house.count()), ((-1,), 2))
        self.house.untell(-1)
        with self.assertRaises(ChangeError):
            self.house.untell(-1)
        self.assertEqual(self.house.told, ())

    def test_told_ascends(self):
        formula = (tuple(range(1, 8)), (), ())
        house = House(formula, ())
        for literal in (5, -2, 7, 1, -4):
            house.tell(literal)
        self.assertEqual(house.told, (1, -2, -4, 5, 7))

    def test_told_literals_that_are_clauses_already(self):
        house = House(((1, 2), (), ((1,),)), ())
        house.tell(1)
        self.assertEqual((house.count(), house.within(0)), (2, ((2, 1), (2, 1))))
        house.take((1,))
        self.assertEqual(house.count(), 2)
        house.put((1,))
        house.untell(1)
        self.assertEqual(house.count(), 2)
        house.tell(-1)
        self.assertEqual((house.count(), house.report()), (0, "models 0\nsum 0\n"))

    def test_chance(self):
        self.assertEqual([self.house.chance(l) for l in (1, -1, 2, -2, 3, -3)],
                         [(1, 5), (4, 5), (14, 15), (1, 15), (3, 5), (2, 5)])
        self.house.tell(3)
        self.assertEqual([self.house.chance(l) for l in (1, 3, -3)], [(1, 3), (1, 1), (0, 1)])
        for literal in (4, -4, 5, 999):
            with self.assertRaises(ChangeError):
                self.house.chance(literal)

    def test_best(self):
        self.assertEqual(self.house.best(), ((1, 1), (-1, 2, -3)))
        self.house.tell(1)
        self.assertEqual(self.house.best(), ((1, 3), (1, 2, 3)))
        self.house.weigh(1, (0, 1))
        # All weigh nothing now: the least one.
        self.assertEqual(self.house.best(), ((0, 1), (1, -2, 3)))
        self.house.untell(1)
        self.assertEqual(self.house.best(), ((1, 1), (-1, 2, -3)))

    def test_best_among_told_ones_without_weight(self):
        house = House(((1, 2), (), ()), ((1, (5, 1)), (2, (0, 1))))
        house.tell(2)
        self.assertEqual(house.best(), ((0, 1), (-1, 2)))

    def test_at_and_draw(self):
        self.assertEqual([self.house.at(k) for k in range(4)], [(-1, 2, -3), (-1, 2, 3), (1, -2, 3), (1, 2, 3)])
        self.assertEqual([self.house.draw(pair_of(Fraction(n, 15))) for n in (0, 5, 6, 11, 12, 13, 14)],
                         [(-1, 2, -3), (-1, 2, -3), (-1, 2, 3), (-1, 2, 3), (1, -2, 3), (1, 2, 3), (1, 2, 3)])
        self.house.tell(3)
        self.assertEqual([self.house.at(k) for k in range(3)], [(-1, 2, 3), (1, -2, 3), (1, 2, 3)])
        self.assertEqual([self.house.draw(pair_of(Fraction(n, 9))) for n in (0, 5, 6, 7, 8)],
                         [(-1, 2, 3), (-1, 2, 3), (1, -2, 3), (1, 2, 3), (1, 2, 3)])
        for k in (-1, 3, 4, 100):
            with self.assertRaises(NoFilling):
                self.house.at(k)

    def test_no_filling(self):
        self.house.tell(-1)
        self.house.tell(-2)
        for question in (lambda: self.house.chance(1), self.house.best, lambda: self.house.at(0),
                         lambda: self.house.draw((0, 1))):
            with self.assertRaises(NoFilling):
                question()
        self.assertEqual((self.house.count(), self.house.total(), self.house.within(9)), (0, (0, 1), ((0, 1), (0, 1))))
        self.house.untell(-2)
        self.house.weigh(-1, (0, 1))
        for question in (lambda: self.house.chance(1), lambda: self.house.draw((1, 2))):
            with self.assertRaises(NoFilling):
                question()
        self.assertEqual((self.house.best(), self.house.at(1)), (((0, 1), (-1, 2, -3)), (-1, 2, 3)))

    def test_within(self):
        for policy in (PLAIN, USUAL):
            house = House(FORMULA, WEIGHTS, policy=policy)
            for told in ([], [3], [-1], [1, -3]):
                for literal in told:
                    house.tell(literal)
                formula = told_formula(FORMULA, told)
                for fuel in range(decisions(formula, policy) + 2):
                    self.assertEqual(house.within(fuel), bounds(compile_sheet(formula, policy, fuel=fuel), WEIGHTS))
                self.assertEqual(house.within(9), (house.total(), house.total()))
                for literal in told:
                    house.untell(literal)
        self.assertEqual(House(FORMULA, WEIGHTS).within(0), ((0, 1), (4, 1)))

    def test_report(self):
        self.assertEqual(self.house.report(), "models 4\nsum 5/2\n1 0.2000\n2 0.9333\n3 0.6000\n")
        self.house.tell(3)
        self.assertEqual(self.house.report(), "models 3\nsum 3/2\n1 0.3333\n2 0.8889\n3 1.0000\n")
        self.house.tell(-1)
        self.assertEqual(self.house.report(), "models 1\nsum 1\n1 0.0000\n2 1.0000\n3 1.0000\n")

    def test_report_with_a_sum_of_nothing(self):
        self.house.weigh(3, (0, 1))
        self.house.tell(3)
        self.assertEqual(self.house.report(), "models 3\nsum 0\n")
        self.house.put((-3,))
        self.assertEqual(self.house.report(), "models 0\nsum 0\n")
        self.assertEqual(House(((), (1,), ((1,),)), ()).report(), "models 1\nsum 1\n")
        self.assertEqual(House(((), (), ((),)), ()).report(), "models 0\nsum 0\n")

    def test_report_rounds_halves_upward(self):
        house = House(((7,), (), ()), ((-7, (19999, 1)),))
        self.assertEqual(house.report(), "models 2\nsum 20000\n7 0.0001\n")
        house.weigh(-7, (20000, 1))
        self.assertEqual(house.report(), "models 2\nsum 20001\n7 0.0000\n")


class Shadow:
    """What a house must know, kept in the plainest way."""

    def __init__(self, formula, weights):
        self.formula = formula
        self.weights = dict(weights)
        self.told = []

    def models(self):
        return given_models(self.formula, self.told)

    def row(self):
        return tuple((l, self.weights[l]) for l in sorted(self.weights, key=literal_key))

    def told_formula(self):
        return told_formula(self.formula, self.told)


class Many(unittest.TestCase):
    def deed(self, source, house, shadow):
        shown, hidden, residue = shadow.formula
        kind = source.randint(0, 5)
        clause = some_clause(source, list(shown + hidden), (0, 1, 2, 2, 2, 3))
        literal = source.choice([-1, 1]) * source.randint(1, 15)
        if kind == 0 and clause not in residue:
            house.put(clause)
            shadow.formula = (shown, hidden, residue_of(list(residue) + [clause]))
        elif kind == 1 and residue:
            clause = source.choice(residue)
            house.take(clause)
            shadow.formula = (shown, hidden, tuple(other for other in residue if other != clause))
        elif kind == 2 and shown:
            literal = source.choice(shown) * source.choice([1, -1])
            weight = source.choice([(0, 1), (1, 1), (1, 2), (5, 3)])
            house.weigh(literal, weight)
            shadow.weights[literal] = weight
        elif kind == 3 and abs(literal) in shown and literal not in shadow.told and -literal not in shadow.told:
            house.tell(literal)
            shadow.told.append(literal)
        elif kind == 4 and shadow.told:
            literal = source.choice(shadow.told)
            house.untell(literal)
            shadow.told.remove(literal)
        else:
            self.refused(source, house, shadow, clause, literal)

    def refused(self, source, house, shadow, clause, literal):
        """Deeds that are refused, some of each kind."""
        shown, hidden, residue = shadow.formula
        deeds = [lambda: house.put((literal * 17,)), lambda: house.weigh(source.choice([99, -99]), (1, 2)),
                 lambda: house.tell(99), lambda: house.untell(99), lambda: house.chance(99)]
        if clause in residue:
            deeds.append(lambda: house.put(clause))
        else:
            deeds.append(lambda: house.take(clause))
        if shown:
            deeds.append(lambda: house.weigh(shown[0], (2, 2)))
        if shadow.told:
            deeds += [lambda: house.tell(shadow.told[0]), lambda: house.tell(-shadow.told[0]),
                      lambda: house.untell(-shadow.told[0])]
        for deed in deeds:
            with self.assertRaises(ChangeError):
                deed()

    def look(self, source, house, shadow, policy):
        formula, weights = shadow.told_formula(), shadow.row()
        models = shadow.models()
        whole = plain_sum(formula, weights)
        self.assertEqual(house.told, tuple(sorted(shadow.told, key=literal_key)))
        self.assertEqual(house.count(), len(models))
        self.assertEqual(house.total(), whole)
        sums = sums_by_literal(formula, weights)
        lines = [f"models {len(models)}", f"sum {show_fraction(whole)}"]
        for literal, held in sums:
            if whole == (0, 1):
                with self.assertRaises(NoFilling):
                    house.chance(literal)
            else:
                self.assertEqual(house.chance(literal), over(held, whole))
                lines += [f"{literal} {rounded(over(held, whole), 4)}"] if literal > 0 else []
        self.assertEqual(house.report(), "\n".join(lines) + "\n")
        share = (source.randint(0, 6), 7)
        if models:
            self.assertEqual(house.best(), ranked(formula, weights)[0])
            k = source.randrange(len(models))
            self.assertEqual(house.at(k), models[k])
            self.assertEqual(weight_in(weights, house.best()[1]), house.best()[0])
        else:
            with self.assertRaises(NoFilling):
                house.best()
        with self.assertRaises(NoFilling):
            house.at(len(models))
        if whole == (0, 1):
            with self.assertRaises(NoFilling):
                house.draw(pair_of(Fraction(*share)))
        else:
            self.assertEqual(house.draw(pair_of(Fraction(*share))), drawn(formula, weights, share))
        for fuel in (0, 1, 3, 1000):
            self.assertEqual(house.within(fuel), bounds(compile_sheet(formula, policy, fuel=fuel), weights))

    def test_rows_of_deeds(self):
        source = random.Random(1111)
        for turn in range(60):
            formula = some_formula(source, clauses=6)
            weights = some_weights(source, formula)
            policy = some_policy(source)
            before = copy.deepcopy((formula, weights, policy))
            house = House(formula, weights, policy=policy)
            shadow = Shadow(formula, weights)
            for step in range(12):
                self.deed(source, house, shadow)
                if source.random() < 0.7:
                    self.look(source, house, shadow, policy)
            self.look(source, house, shadow, policy)
            self.assertEqual((formula, weights, policy), before)

    def test_every_policy(self):
        for policy in every_policy():
            house = House(FORMULA, WEIGHTS, policy=policy)
            house.tell(3)
            self.assertEqual((house.count(), house.total(), house.best()), (3, (3, 2), ((1, 1), (-1, 2, 3))))


class Large(unittest.TestCase):
    def test_a_long_row(self):
        house = House(path_formula(500), ())
        self.assertEqual(house.count(), path_counts(500))
        house.tell(-200)
        self.assertEqual(house.total(), (path_counts(198) * path_counts(299), 1))
        self.assertEqual(house.chance(201), (1, 1))
        house.tell(-202)
        self.assertEqual(house.at(0)[198:203], (199, -200, 201, -202, 203))
        self.assertEqual(len(house.report().split("\n")), 503)


if __name__ == "__main__":
    unittest.main()
