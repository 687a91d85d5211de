"""Tests of [9.1] and [9.2]: given literals, and formulas made of others."""

import copy
import random
import unittest
from fractions import Fraction

from common import (Shallow, every_policy, given_models, path_counts, path_formula, some_formula, some_policy,
                    some_weights, weight_in, wild_sheet)
from countsworn.checker import refusal
from countsworn.changes import both, condition, hide, with_clause, without_clause
from countsworn.clauses import formula_faults, residue_of, under_all
from countsworn.compiler import compile_sheet
from countsworn.errors import ChangeError
from countsworn.fractions import total
from countsworn.order import models
from countsworn.plain import plain_models
from countsworn.policy import PLAIN, USUAL
from countsworn.sheets import is_open, reached
from countsworn.walks import bounds, sum_of

YES = ([], ("yes",))
NO = ([()], ("no",))


class Hand(unittest.TestCase):
    def becomes(self, nodes, literals, wanted, shown=(1, 2, 3, 4, 5, 6)):
        """Checks the nodes, by clauses and rules, that become of nodes by hand if literals are given."""
        nodes = tuple((residue_of(clauses), rule) for clauses, rule in nodes)
        hidden = tuple(v for v in range(1, 10) if v not in shown)
        sheet = ((shown, hidden, nodes[-1][0]), nodes)
        self.assertIsNone(refusal(sheet[0], sheet), sheet)
        before = copy.deepcopy((sheet, literals))
        found = condition(sheet, literals)
        self.assertEqual((sheet, literals), before)
        left = tuple(v for v in shown if v not in literals and -v not in literals)
        self.assertEqual(found[0], (left, hidden, under_all(nodes[-1][0], literals)))
        self.assertEqual(found[1], tuple((residue_of(clauses), rule) for clauses, rule in wanted))
        self.assertIsNone(refusal(found[0], found))

    def test_no_and_yes(self):
        self.becomes([YES], [1], [YES])
        self.becomes([NO], [-1, 2], [NO])
        self.becomes([([(), (1,), (2, 3)], ("no",))], [1], [([(), (2, 3)], ("no",))])
        self.becomes([([(), (1,), (2, 3)], ("no",))], [-1, -2], [([(), (3,)], ("no",))])

    def test_the_empty_clause_comes(self):
        for rule in (("open",), ("unit", 1, 0)):
            self.becomes([YES, ([(1,)], rule)], [-1], [NO])
        self.becomes([([(2,)], ("open",)), ([(2,)], ("open",)), ([(-1, 2), (1, 2)], ("choice", 1, 0, 1))], [-2],
                     [NO, NO, ([(-1,), (1,)], ("choice", 1, 0, 1))])
        self.becomes([([(2,)], ("open",)), YES, ([(1, 2)], ("choice", 1, 1, 0))], [-1, -2], [NO])
        self.becomes([([(1,)], ("open",)), ([(2, 7)], ("open",)), ([(1,), (2, 7)], ("parts", (0, 1)))], [-1],
                     [([(), (2, 7)], ("no",))])
        self.becomes([([(1,)], ("open",)), ([(1,), (1, 2)], ("less", 0))], [-1], [([(), (2,)], ("no",))])
        self.becomes([([(1,), (1, 2), (1, -2)], ("open",)), ([(1, 2), (1, -2)], ("more", (1,), 0))], [-1],
                     [([(), (-2,), (2,)], ("no",)), ([(-2,), (2,)], ("more", (), 0))])
        self.becomes([([(1, 2), (1, -2), (-1, 3), (-1, -3)], ("refuted", ((1,), ())))], [-1],
                     [([(-2,), (2,)], ("refuted", ((), ())))])

    def test_nothing_is_left(self):
        self.becomes([([(1,)], ("open",))], [1], [YES])
        self.becomes([YES, ([(1,), (1, 2)], ("unit", 1, 0))], [1], [YES])
        self.becomes([YES, ([(2,)], ("unit", 2, 0)), ([(1, 2)], ("choice", 1, 0, 1))], [2], [YES])
        self.becomes([([], ("open",))], [5], [YES])
        self.becomes([([], ("some", ()))], [5], [YES])
        self.becomes([([], ("some", ()))], [], [YES])

    def test_choice_of_a_given_variable(self):
        nodes = [YES, ([(3,)], ("unit", 3, 0)), ([(2,)], ("unit", 2, 0)), ([(-1, 3), (1, 2)], ("choice", 1, 1, 2))]
        self.becomes(nodes, [1], nodes[:2])
        self.becomes(nodes, [-1], [YES, ([(2,)], ("unit", 2, 0))])
        self.becomes(nodes, [1, -2], nodes[:2])
        self.becomes(nodes, [-1, 2], [YES])
        self.becomes(nodes, [2, -1], [YES])
        self.becomes(nodes, [1, 3], [YES])
        self.becomes(nodes, [1, -3], [NO])

    def test_choice_that_stays(self):
        nodes = [YES, ([(3,)], ("unit", 3, 0)), ([(2,)], ("unit", 2, 0)), ([(-1, 3), (1, 2)], ("choice", 1, 1, 2))]
        self.becomes(nodes, [3], [YES, YES, ([(2,)], ("unit", 2, 0)), ([(1, 2)], ("choice", 1, 1, 2))])
        self.becomes(nodes, [-2], [YES, ([(3,)], ("unit", 3, 0)), NO, ([(1,), (-1, 3)], ("choice", 1, 1, 2))])
        self.becomes(nodes, [5], nodes)
        self.becomes(nodes, [], nodes)

    def test_choice_of_a_variable_that_is_not_there_any_more(self):
        nodes = [([(3, 4)], ("open",)), ([(2, 5), (3, 4)], ("open",)), ([(1, 2, 5), (3, 4)], ("choice", 1, 0, 1))]
        self.becomes(nodes, [2], [([(3, 4)], ("open",))])
        self.becomes(nodes, [5, 3], [YES])
        # The second child is another node; what comes in its place is the first one.
        nodes = [([(3,)], ("open",)), YES, ([(3,)], ("unit", 3, 1)), ([(2,), (3,)], ("unit", 2, 2)),
                 ([(-1, 2), (3,)], ("choice", 1, 3, 0))]
        self.becomes(nodes, [2], [YES, ([(3,)], ("unit", 3, 0))])

    def test_unit(self):
        nodes = [YES, ([(2,)], ("unit", 2, 0)), ([(-1,), (2,)], ("unit", -1, 1))]
        self.becomes(nodes, [-1], nodes[:2])
        self.becomes(nodes, [2], [YES, ([(-1,)], ("unit", -1, 0))])
        self.becomes(nodes, [1], [([(), (2,)], ("no",))])
        self.becomes(nodes, [-2], [([(), (-1,)], ("no",))])
        nodes = [([(2, -7), (-7,)], ("open",)), ([(2, -7), (8,), (-7, -8)], ("unit", 8, 0))]
        self.becomes(nodes, [2], [([(-7,)], ("open",)), ([(8,), (-7, -8)], ("unit", 8, 0))])
        self.becomes(nodes, [-2], [([(-7,)], ("open",)), ([(-7,), (8,), (-7, -8)], ("unit", 8, 0))])

    def test_refuted(self):
        clauses = [(1, 2, 3), (1, 2, -3), (1, -2, 3), (1, -2, -3), (-1, 4), (-1, -4)]
        rows = ((1, 2), (1,), ())
        node = (clauses, ("refuted", rows))
        self.becomes([node], [], [node])
        self.becomes([node], [6], [node])
        self.becomes([node], [-1], [([(2, 3), (2, -3), (-2, 3), (-2, -3)], ("refuted", ((2,), (), ())))])
        self.becomes([node], [1], [([(4,), (-4,)], ("refuted", ((),)))])
        self.becomes([node], [2], [([(1, 3), (1, -3), (-1, 4), (-1, -4)], ("refuted", ((1,), ())))])
        self.becomes([node], [-2], [([(1, 3), (1, -3), (-1, 4), (-1, -4)], ("refuted", ((1,), (1,), ())))])
        self.becomes([node], [-2, -1], [([(3,), (-3,)], ("refuted", ((), (), ())))])
        self.becomes([node], [4], [(clauses[:4] + [(-1,)], ("refuted", rows))])
        self.becomes([node], [4, 1], [NO])

    def test_some_and_open(self):
        node = ([(7, 8)], ("some", (7, 8)))
        self.becomes([node], [1, -2], [node])
        node = ([(1, 2), (7, 8)], ("open",))
        self.becomes([node], [-1], [([(2,), (7, 8)], ("open",))])
        self.becomes([node], [1], [([(7, 8)], ("open",))])

    def test_parts(self):
        one, two, three = ([(1, 2)], ("open",)), ([(3,), (3, 5)], ("open",)), ([(4, 7)], ("open",))
        nodes = [one, two, three, ([(1, 2), (3,), (3, 5), (4, 7)], ("parts", (2, 0, 1)))]
        self.becomes(nodes, [], nodes)
        self.becomes(nodes, [6], nodes)
        self.becomes(nodes, [1], [two, three, ([(3,), (3, 5), (4, 7)], ("parts", (1, 0)))])
        self.becomes(nodes, [4], [one, two, ([(1, 2), (3,), (3, 5)], ("parts", (0, 1)))])
        self.becomes(nodes, [-4], [one, two, ([(7,)], ("open",)),
                                   ([(1, 2), (3,), (3, 5), (7,)], ("parts", (2, 0, 1)))])
        self.becomes(nodes, [1, 3], [three])
        self.becomes(nodes, [4, 2], [two])
        self.becomes(nodes, [2, 3, 4], [YES])
        self.becomes(nodes, [-3], [([(), (1, 2), (4, 7), (5,)], ("no",))])
        # The child that is left is deep, and has a node behind it that is not reached any more.
        nodes = [YES, ([(2,)], ("unit", 2, 0)), ([(3,)], ("unit", 3, 0)), ([(2,), (3,)], ("parts", (1, 2)))]
        self.becomes(nodes, [3], [YES, ([(2,)], ("unit", 2, 0))])
        self.becomes(nodes, [2], [YES, ([(3,)], ("unit", 3, 0))])

    def test_more_becomes_its_child(self):
        clauses = [(1, 2), (1, -2), (2, 3), (-3, 4)]
        nodes = [(clauses + [(1, 3)], ("open",)), (clauses, ("more", (1, 3), 0))]
        self.becomes(nodes, [3], [([(1, 2), (1, -2), (4,)], ("open",))])
        self.becomes(nodes, [1], [([(2, 3), (-3, 4)], ("open",))])
        clauses = [(1, 2), (-2, 3), (3, 4)]
        nodes = [(clauses + [(1, 3)], ("open",)), (clauses, ("more", (1, 3), 0))]
        self.becomes(nodes, [-1], [([(2,), (-2, 3), (3, 4), (3,)], ("open",)),
                                   ([(2,), (-2, 3), (3, 4)], ("more", (3,), 0))])
        self.becomes(nodes, [-4], [([(1, 2), (-2, 3), (3,), (1, 3)], ("open",)),
                                   ([(1, 2), (-2, 3), (3,)], ("more", (1, 3), 0))])
        # Given -4, the clause is there already.
        clauses = [(1, 2), (-2, 3), (1, 3, 4)]
        nodes = [(clauses + [(1, 3)], ("open",)), (clauses, ("more", (1, 3), 0))]
        self.becomes(nodes, [-4], [([(1, 2), (1, 3), (-2, 3)], ("open",))])

    def test_more_stays(self):
        clauses = [(1, 2), (1, -2), (2, 3), (-3, 4)]
        nodes = [(clauses + [(1, 3)], ("open",)), (clauses, ("more", (1, 3), 0))]
        self.becomes(nodes, [], nodes)
        self.becomes(nodes, [-3], [([(1, 2), (1, -2), (2,), (1,)], ("open",)),
                                   ([(1, 2), (1, -2), (2,)], ("more", (1,), 0))])
        self.becomes(nodes, [-4], [([(1, 2), (1, -2), (2, 3), (-3,), (1, 3)], ("open",)),
                                   ([(1, 2), (1, -2), (2, 3), (-3,)], ("more", (1, 3), 0))])
        self.becomes(nodes, [-1], [([(2,), (-2,), (2, 3), (-3, 4), (3,)], ("open",)),
                                   ([(2,), (-2,), (2, 3), (-3, 4)], ("more", (3,), 0))])

    def test_more_is_made_anew(self):
        # Given 4, no clause has 3 any more, but the added one has it.
        clauses = [(1, 2), (1, -2), (3, 4)]
        nodes = [(clauses + [(1, 3)], ("open",)), (clauses, ("more", (1, 3), 0))]
        self.becomes(nodes, [4], [YES, ([(1,), (1, 2), (1, -2)], ("unit", 1, 0)),
                                  ([(1, 2), (1, -2)], ("more", (1,), 1))])
        # In a sheet of nodes ahead and above.
        clauses = [(1, 2), (1, -2), (3, 4), (5,)]
        nodes = [YES, ([(1, 2), (1, -2), (3, 4), (1, 3)], ("open",)),
                 ([(1, 2), (1, -2), (3, 4)], ("more", (1, 3), 1)), (clauses, ("unit", 5, 2))]
        self.becomes(nodes, [4], [YES, ([(1,), (1, 2), (1, -2)], ("unit", 1, 0)),
                                  ([(1, 2), (1, -2)], ("more", (1,), 1)), ([(1, 2), (1, -2), (5,)], ("unit", 5, 2))])
        # With hidden variables, and with all the fuel that it takes.
        clauses = [(1, 2), (7, 8), (3, 4), (2, 5)]
        nodes = [(clauses + [(1, 2, 3)], ("open",)), (clauses, ("more", (1, 2, 3), 0))]
        self.becomes(nodes, [4], self.made([(1, 2), (7, 8), (2, 5)], (1, 2, 3, 5, 6)))

    def made(self, clauses, shown):
        formula = (shown, (7, 8, 9), residue_of(clauses))
        return list(compile_sheet(formula, USUAL, fuel=10 ** 9)[1])

    def test_more_that_nothing_leads_to_is_left_alone(self):
        clauses = [(1, 2), (1, -2), (3, 4)]
        nodes = [(clauses + [(1, 3)], ("open",)), (clauses, ("more", (1, 3), 0)), YES]
        self.becomes(nodes, [4], [YES])
        nodes = [(clauses + [(1, 3)], ("open",)), (clauses, ("more", (1, 3), 0)), ([(2,)], ("open",))]
        self.becomes(nodes + [(clauses, ("open",))], [4], [([(1, 2), (1, -2)], ("open",))])

    def test_less(self):
        nodes = [([(1, 2), (-3,)], ("open",)), ([(1, 2), (-3,), (1, 2, 4), (-3, 5)], ("less", 0))]
        self.becomes(nodes, [], nodes)
        self.becomes(nodes, [-1], [([(2,), (-3,)], ("open",)), ([(2,), (-3,), (2, 4), (-3, 5)], ("less", 0))])
        self.becomes(nodes, [4], [([(1, 2), (-3,)], ("open",)), ([(1, 2), (-3,), (-3, 5)], ("less", 0))])
        self.becomes(nodes, [4, 5], [([(1, 2), (-3,)], ("open",))])
        self.becomes(nodes, [1, 5], [([(-3,)], ("open",))])
        self.becomes(nodes, [-4, 5], [([(1, 2), (-3,)], ("open",))])
        self.becomes(nodes, [1, -3], [YES])

    def test_numbers_of_a_whole_sheet(self):
        nodes = [YES, ([(6,)], ("unit", 6, 0)), ([(5, 6)], ("choice", 5, 0, 1)), ([(3,)], ("unit", 3, 0)),
                 ([(3, 4)], ("choice", 4, 0, 3)), ([(3, 4), (5, 6)], ("parts", (4, 2))), ([(2,), (3, 4)], ("unit", 2, 4)),
                 ([(-1, 5, 6), (1, 2), (3, 4)], ("choice", 1, 5, 6))]
        self.becomes(nodes, [5], [YES, ([(3,)], ("unit", 3, 0)), ([(3, 4)], ("choice", 4, 0, 1)),
                                  ([(2,), (3, 4)], ("unit", 2, 2)), ([(1, 2), (3, 4)], ("choice", 1, 2, 3))])
        self.becomes(nodes, [1], nodes[:6])
        self.becomes(nodes, [1, 4], nodes[:3])
        self.becomes(nodes, [-1], [YES, ([(3,)], ("unit", 3, 0)), ([(3, 4)], ("choice", 4, 0, 1)),
                                   ([(2,), (3, 4)], ("unit", 2, 2))])
        self.becomes(nodes, [-1, 2, -4], [YES, ([(3,)], ("unit", 3, 0))])


class Many(unittest.TestCase):
    def one(self, source, formula, sheet):
        many = source.choice([0, 1, 1, 2, len(formula[0]), source.randint(0, len(formula[0]))])
        literals = [v * source.choice([1, -1]) for v in source.sample(formula[0], min(many, len(formula[0])))]
        weights = some_weights(source, formula)
        before = copy.deepcopy((sheet, literals))
        found = condition(sheet, literals)
        self.assertEqual((sheet, literals), before)
        left = tuple(v for v in formula[0] if v not in literals and -v not in literals)
        self.assertEqual(found[0], (left, formula[1], under_all(formula[2], literals)))
        self.assertIsNone(refusal(found[0], found), (sheet, literals))
        self.assertEqual(reached(found), list(range(len(found[1]))))
        rows = [tuple(l for l in model if l not in literals) for model in given_models(formula, literals)]
        rest = tuple(pair for pair in weights if abs(pair[0]) in left)
        wanted = total([weight_in(rest, row) for row in rows])
        if is_open(found):
            self.assertTrue(is_open(sheet))
            low, high = bounds(found, rest)
            self.assertTrue(Fraction(*low) <= Fraction(*wanted) <= Fraction(*high))
        else:
            self.assertEqual(list(models(found)), rows)
            self.assertEqual(sum_of(found, rest), wanted)

    def test_sheets_of_every_policy(self):
        source = random.Random(911)
        for turn in range(12):
            formula = some_formula(source)
            for policy in every_policy():
                self.one(source, formula, compile_sheet(formula, policy))
                self.one(source, formula, compile_sheet(formula, policy, fuel=source.randint(0, 4)))

    def test_sheets_of_all_kinds(self):
        source = random.Random(912)
        for turn in range(1500):
            formula = some_formula(source)
            self.one(source, formula, wild_sheet(source, formula, source.choice([0, 0, 0.1, 0.3])))

    def test_one_after_the_other(self):
        source = random.Random(913)
        for turn in range(150):
            formula = some_formula(source)
            sheet = compile_sheet(formula, some_policy(source))
            literals = [v * source.choice([1, -1]) for v in formula[0]]
            for literal in literals:
                sheet = condition(sheet, [literal])
                self.assertIsNone(refusal(sheet[0], sheet))
            self.assertEqual(sheet[0][0], ())
            wanted = tuple(sorted(literals, key=abs)) in plain_models(formula)
            self.assertEqual(sum_of(sheet, ()), (1 if wanted else 0, 1))

    def test_far_down(self):
        formula = path_formula(999)
        with Shallow():
            sheet = compile_sheet(formula, (("least",), False, True, False, False))
            found = condition(sheet, [-500])
            self.assertIsNone(refusal(found[0], found))
            self.assertEqual(sum_of(found, ()), (path_counts(498) ** 2, 1))
            found = condition(sheet, [v if v % 3 else -v for v in range(1, 1000)])
            self.assertEqual(found[1], (((), ("yes",)),))
            found = condition(sheet, list(range(1, 999)))
            self.assertEqual(found[0], ((999,), (), ()))


class Formulas(unittest.TestCase):
    FORMULA = ((1, 2, 5), (3, 8), residue_of([(1, 3), (-2, 8), (5, -8)]))

    def test_hide(self):
        self.assertEqual(hide(self.FORMULA, []), self.FORMULA)
        self.assertEqual(hide(self.FORMULA, [5]), ((1, 2), (3, 5, 8), self.FORMULA[2]))
        self.assertEqual(hide(self.FORMULA, [2, 1]), ((5,), (1, 2, 3, 8), self.FORMULA[2]))
        self.assertEqual(hide(self.FORMULA, [5, 1, 2]), ((), (1, 2, 3, 5, 8), self.FORMULA[2]))

    def test_hide_many(self):
        source = random.Random(921)
        for turn in range(200):
            formula = some_formula(source)
            variables = source.sample(formula[0], source.randint(0, len(formula[0])))
            before = copy.deepcopy((formula, variables))
            found = hide(formula, variables)
            self.assertEqual((formula, variables), before)
            self.assertEqual(formula_faults(found), [])
            rows = {tuple(l for l in model if abs(l) not in variables) for model in plain_models(formula)}
            self.assertEqual(set(plain_models(found)), rows)

    def test_both_names(self):
        first = ((2, 5), (1, 3), residue_of([(1, 2), (3, 5)]))
        second = ((2, 5), (1, 4, 9), residue_of([(1, 2, 4), (-9,), (5, -9)]))
        # 1, 4 and 9 become 4, 6 and 7: the least that neither the first one nor the shown ones have.
        self.assertEqual(both(first, second),
                         ((2, 5), (1, 3, 4, 6, 7), residue_of([(1, 2), (3, 5), (2, 4, 6), (-7,), (5, -7)])))
        self.assertEqual(both(second, first),
                         ((2, 5), (1, 3, 4, 6, 9), residue_of([(1, 2, 4), (-9,), (5, -9), (2, 3), (5, 6)])))

    def test_both_without_hidden_variables(self):
        first = ((1, 2), (), residue_of([(1, 2)]))
        second = ((1, 2), (), residue_of([(1, 2), (-1,)]))
        self.assertEqual(both(first, second), ((1, 2), (), residue_of([(-1,), (1, 2)])))
        self.assertEqual(both(first, first), first)
        self.assertEqual(both(((1, 2), (3,), ()), ((1, 2), (3,), ((),))), ((1, 2), (3, 4), ((),)))

    def test_both_hidden_variables_in_no_clause(self):
        self.assertEqual(both(((4,), (), ()), ((4,), (1, 2, 9), ((9,),))), ((4,), (1, 2, 3), ((3,),)))

    def test_both_many(self):
        source = random.Random(922)
        for turn in range(200):
            first = some_formula(source)
            shown = first[0]
            free = [v for v in range(1, 15) if v not in shown]
            hidden = tuple(sorted(source.sample(free, source.randint(0, 3))))
            known = list(shown + hidden)
            rows = [tuple(v * source.choice([1, -1]) for v in sorted(source.sample(known, min(len(known), 2))))
                    for _ in range(source.randint(0, 5))]
            second = (shown, hidden, residue_of(rows))
            before = copy.deepcopy((first, second))
            found = both(first, second)
            self.assertEqual((first, second), before)
            self.assertEqual(formula_faults(found), [])
            other = plain_models(second)
            self.assertEqual(plain_models(found), [model for model in plain_models(first) if model in other])

    def test_with_clause(self):
        self.assertEqual(with_clause(self.FORMULA, (1, 2)), (self.FORMULA[0], self.FORMULA[1],
                                                             residue_of(list(self.FORMULA[2]) + [(1, 2)])))
        self.assertEqual(with_clause(self.FORMULA, ()), (self.FORMULA[0], self.FORMULA[1], ((),) + self.FORMULA[2]))
        self.assertEqual(with_clause(self.FORMULA, (-8,))[2], residue_of([(1, 3), (-2, 8), (5, -8), (-8,)]))
        self.assertEqual(with_clause(self.FORMULA, (1, 3, 8))[2], residue_of([(1, 3), (1, 3, 8), (-2, 8), (5, -8)]))

    def test_with_clause_refused(self):
        for clause in ((1, 3), (-2, 8), (5, -8), (4,), (-4,), (1, 4), (1, 999), (3, -6)):
            with self.assertRaises(ChangeError):
                with_clause(self.FORMULA, clause)
        with self.assertRaises(ChangeError):
            with_clause(((1,), (), ((),)), ())

    def test_without_clause(self):
        self.assertEqual(without_clause(self.FORMULA, (1, 3)), (self.FORMULA[0], self.FORMULA[1],
                                                                residue_of([(-2, 8), (5, -8)])))
        self.assertEqual(without_clause(((1,), (), ((),)), ()), ((1,), (), ()))
        self.assertEqual(without_clause(with_clause(self.FORMULA, (1, 2)), (1, 2)), self.FORMULA)

    def test_without_clause_refused(self):
        for clause in ((), (1,), (3,), (1, -3), (1, 2), (4,), (1, 3, 8)):
            with self.assertRaises(ChangeError):
                without_clause(self.FORMULA, clause)

    def test_with_and_without_many(self):
        source = random.Random(923)
        for turn in range(200):
            formula = some_formula(source)
            known = list(formula[0] + formula[1])
            clause = tuple(v * source.choice([1, -1]) for v in sorted(source.sample(known, min(len(known), 2))))
            before = copy.deepcopy(formula)
            if clause in formula[2]:
                found = without_clause(formula, clause)
                self.assertEqual(with_clause(found, clause), formula)
            else:
                found = with_clause(formula, clause)
                self.assertEqual(without_clause(found, clause), formula)
            self.assertEqual(formula_faults(found), [])
            self.assertEqual(formula, before)


if __name__ == "__main__":
    unittest.main()
