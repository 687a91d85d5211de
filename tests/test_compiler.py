"""Tests of [8.2] and [8.3]: the compiler."""

import copy
import random
import unittest
from fractions import Fraction

from common import (Shallow, every_policy, odd_formula, path_counts, path_formula, some_formula, some_policy,
                    some_weights)
from countsworn.chains import follows
from countsworn.checker import refusal
from countsworn.clauses import residue_of, residue_with, under
from countsworn.compiler import compile_sheet, decisions
from countsworn.errors import PolicyError
from countsworn.order import models
from countsworn.plain import plain_models, plain_sum
from countsworn.policy import PLAIN, USUAL, chosen
from countsworn.residues import lessened, parts_of, shown_of, units
from countsworn.search import search
from countsworn.sheets import is_open, reached, tally
from countsworn.walks import bounds, sum_of


class Slow:
    """The compiler by the words of the document, with calls as deep as the sheet."""

    def __init__(self, formula, policy, fuel):
        self.formula = formula
        self.policy = policy
        self.fuel = fuel
        self.nodes = []

    def make(self, residue):
        if self.policy[2]:
            for number, node in enumerate(self.nodes):
                if node[0] == residue:
                    return number
        rule = self.rule(residue)
        self.nodes.append((residue, rule))
        return len(self.nodes) - 1

    def rule(self, residue):
        if () in residue:
            return ("no",)
        if residue == ():
            return ("yes",)
        if units(residue):
            literal = units(residue)[0]
            return ("unit", literal, self.make(under(residue, literal)))
        if self.policy[3] and lessened(residue) != residue:
            return ("less", self.make(lessened(residue)))
        if shown_of(self.formula, residue) == ():
            return self.searched(residue)
        if self.policy[1] and len(parts_of(residue)) > 1:
            return ("parts", tuple([self.make(part) for part in parts_of(residue)]))
        v = chosen(self.formula, self.policy, residue)
        if self.policy[4]:
            for literal in (v, -v):
                if follows(residue, (-literal,)):
                    return ("more", (-literal,), self.make(residue_with(residue, (-literal,))))
        if self.fuel == 0:
            return ("open",)
        self.fuel -= 1
        first = self.make(under(residue, v))
        return ("choice", v, first, self.make(under(residue, -v)))

    def searched(self, residue):
        answer = search(residue, fuel=self.fuel)
        # It decided as often as the least fuel with which it answers.
        many = 0
        while many < self.fuel and search(residue, fuel=many) == ("open",):
            many += 1
        self.fuel -= many
        return answer


def slow_sheet(formula, policy, fuel):
    slow = Slow(formula, policy, fuel)
    slow.make(formula[2])
    return (formula, tuple(slow.nodes))


class Hand(unittest.TestCase):
    def rules(self, formula, policy, fuel, wanted):
        """Checks the rules of the nodes; the residues are checked by the checker."""
        formula = (formula[0], formula[1], residue_of(formula[2]))
        sheet = compile_sheet(formula, policy, fuel=fuel)
        self.assertEqual([rule for _, rule in sheet[1]], wanted)
        self.assertEqual(sheet[0], formula)
        self.assertIsNone(refusal(formula, sheet))
        self.assertEqual(reached(sheet), list(range(len(wanted))))
        self.assertIsInstance(sheet, tuple)
        self.assertIsInstance(sheet[1], tuple)

    def test_no_and_yes(self):
        for policy in (PLAIN, USUAL):
            for fuel in (0, 5):
                self.rules(((1, 2), (3,), [()]), policy, fuel, [("no",)])
                self.rules(((1, 2), (3,), [(), (1,), (2, 3), (-2, 3)]), policy, fuel, [("no",)])
                self.rules(((1, 2), (3,), []), policy, fuel, [("yes",)])
                self.rules(((), (), []), policy, fuel, [("yes",)])
                self.rules(((), (), [()]), policy, fuel, [("no",)])

    def test_unit_is_ahead_of_all_else(self):
        wanted = [("yes",), ("unit", 5, 0), ("unit", -3, 1), ("unit", 1, 2)]
        self.rules(((1, 5), (3,), [(1,), (-3,), (5,), (1, 5)]), USUAL, 0, wanted)
        self.rules(((1, 5), (3,), [(1,), (-3,), (5,), (1, 5)]), PLAIN, 0, wanted)
        self.rules(((1,), (), [(-1,), (1,)]), USUAL, 9, [("no",), ("unit", -1, 0)])
        self.rules(((2,), (1, 3), [(1,), (-1, -3), (2, 3)]), USUAL, 0,
                   [("yes",), ("unit", 2, 0), ("unit", -3, 1), ("unit", 1, 2)])

    def test_less(self):
        policy = (("least",), False, False, True, False)
        self.rules(((1, 2, 3), (), [(1, 2), (1, 2, 3)]), policy, 9,
                   [("yes",), ("yes",), ("unit", 2, 1), ("choice", 1, 0, 2), ("less", 3)])
        self.rules(((1, 2, 3), (), [(1, 2), (1, 2, 3)]), PLAIN, 9,
                   [("yes",), ("yes",), ("unit", 2, 1), ("choice", 1, 0, 2)])
        self.rules(((1, 2, 3), (), [(1, 2), (1, 2, 3)]), policy, 0, [("open",), ("less", 0)])
        self.rules(((), (1, 2, 3), [(1, 2), (1, 2, 3)]), policy, 0, [("open",), ("less", 0)])

    def test_search_takes_the_fuel_that_it_decides(self):
        four = [(8, 9), (8, -9), (-8, 9), (-8, -9)]
        rows = ("refuted", ((-8,), (8,), ()))
        for policy in (PLAIN, USUAL):
            self.rules(((1,), (8, 9), [(8, 9)]), policy, 1, [("some", (8, -9))])
            self.rules(((1,), (8, 9), [(8, 9)]), policy, 0, [("open",)])
            self.rules(((1,), (8, 9), four), policy, 1, [rows])
            self.rules(((1,), (8, 9), four), policy, 0, [("open",)])
        # Under 1 the search has what the choice left of the fuel; under -1 what the search left.
        clauses = [(-1, 8, 9), (1, -8, -9)]
        self.rules(((1,), (8, 9), clauses), PLAIN, 3, [("some", (8, -9)), ("some", (8, -9)), ("choice", 1, 0, 1)])
        self.rules(((1,), (8, 9), clauses), PLAIN, 2, [("some", (8, -9)), ("open",), ("choice", 1, 0, 1)])
        self.rules(((1,), (8, 9), clauses), PLAIN, 1, [("open",), ("open",), ("choice", 1, 0, 1)])
        self.rules(((1,), (8, 9), clauses), PLAIN, 0, [("open",)])

    def test_a_search_that_ends_open_takes_all(self):
        # The search under 1 needs two decisions; the one under -1 only one.
        clauses = [(-1, 2, 3), (-1, 4, 5), (1, 6, 7)]
        hidden = (2, 3, 4, 5, 6, 7)
        self.rules(((1,), hidden, clauses), PLAIN, 2, [("open",), ("open",), ("choice", 1, 0, 1)])
        self.rules(((1,), hidden, clauses), PLAIN, 3,
                   [("some", (2, -3, 4, -5)), ("open",), ("choice", 1, 0, 1)])
        self.rules(((1,), hidden, clauses), PLAIN, 4,
                   [("some", (2, -3, 4, -5)), ("some", (6, -7)), ("choice", 1, 0, 1)])

    def test_search_is_ahead_of_parts(self):
        self.rules(((1,), (2, 3, 4, 5), [(2, 3), (4, 5)]), USUAL, 9, [("some", (2, -3, 4, -5))])

    def test_parts(self):
        policy = (("least",), True, False, False, False)
        clauses = [(3, 4), (1, 6), (2, 8)]
        wanted = [("yes",), ("yes",), ("unit", 6, 1), ("choice", 1, 0, 2), ("some", (2, -8)), ("yes",), ("yes",),
                  ("unit", 4, 6), ("choice", 3, 5, 7), ("parts", (3, 4, 8))]
        self.rules(((1, 3, 4, 6), (2, 8), clauses), policy, 9, wanted)
        self.rules(((1, 3, 4, 6), (2, 8), clauses), policy, 0, [("open",), ("open",), ("open",), ("parts", (0, 1, 2))])
        self.rules(((1, 3, 4, 6), (2, 8), clauses), policy, 1,
                   [("yes",), ("yes",), ("unit", 6, 1), ("choice", 1, 0, 2), ("open",), ("open",), ("parts", (3, 4, 5))])

    def test_more(self):
        policy = (("least",), False, False, False, True)
        # With 1 comes 2 and not 2; without 1 comes 3 and not 3.
        self.rules(((1, 2), (), [(-1, 2), (-1, -2)]), policy, 0,
                   [("yes",), ("unit", -1, 0), ("more", (-1,), 1)])
        self.rules(((1, 2, 3), (), [(1, 3), (1, -3)]), policy, 0,
                   [("yes",), ("unit", 1, 0), ("more", (1,), 1)])
        both = [(-1, 2), (-1, -2), (1, 3), (1, -3)]
        self.rules(((1, 2, 3), (), both), policy, 0,
                   [("no",), ("unit", -3, 0), ("unit", -1, 1), ("more", (-1,), 2)])
        self.rules(((1, 2), (), [(-1, 2), (-1, -2)]), PLAIN, 0, [("open",)])
        # Only the chosen variable is tried.
        self.rules(((1, 2), (), [(1, 2), (-1, 2)]), policy, 0, [("open",)])
        self.rules(((1, 2), (), [(1, 2), (-1, 2)]), (("row", (2,)), False, False, False, True), 0,
                   [("yes",), ("unit", 2, 0), ("more", (2,), 1)])

    def test_choice(self):
        self.rules(((1, 2), (), [(1, 2)]), PLAIN, 1, [("yes",), ("yes",), ("unit", 2, 1), ("choice", 1, 0, 2)])
        self.rules(((1, 2), (), [(1, 2)]), PLAIN, 0, [("open",)])
        self.rules(((1, 2), (), [(-1, -2)]), PLAIN, 1, [("yes",), ("unit", -2, 0), ("yes",), ("choice", 1, 1, 2)])
        self.rules(((2,), (1,), [(1, 2)]), PLAIN, 1, [("yes",), ("yes",), ("unit", 1, 1), ("choice", 2, 0, 2)])

    def test_the_first_child_is_made_with_all_below_it(self):
        clauses = [(1, 2, 3)]
        wanted = [("yes",), ("yes",), ("yes",), ("unit", 3, 2), ("choice", 2, 1, 3), ("choice", 1, 0, 4)]
        self.rules(((1, 2, 3), (), clauses), PLAIN, 9, wanted)
        clauses = [(-1, -2, -3), (1, 2, 3)]
        wanted = [("yes",), ("unit", -3, 0), ("yes",), ("choice", 2, 1, 2), ("yes",), ("yes",), ("unit", 3, 5),
                  ("choice", 2, 4, 6), ("choice", 1, 3, 7)]
        self.rules(((1, 2, 3), (), clauses), PLAIN, 9, wanted)
        self.rules(((1, 2, 3), (), clauses), PLAIN, 2,
                   [("yes",), ("unit", -3, 0), ("yes",), ("choice", 2, 1, 2), ("open",), ("choice", 1, 3, 4)])
        self.rules(((1, 2, 3), (), clauses), PLAIN, 1, [("open",), ("open",), ("choice", 1, 0, 1)])

    def test_cache(self):
        policy = (("least",), False, True, False, False)
        clauses = [(-1, -2, -3), (1, 2, 3)]
        wanted = [("yes",), ("unit", -3, 0), ("choice", 2, 1, 0), ("unit", 3, 0), ("choice", 2, 0, 3),
                  ("choice", 1, 2, 4)]
        self.rules(((1, 2, 3), (), clauses), policy, 9, wanted)
        # Both children the same; an open node is a node, too.
        self.rules(((1, 2, 3), (), [(1, 2, 3), (-1, 2, 3)]), policy, 9,
                   [("yes",), ("unit", 3, 0), ("choice", 2, 0, 1), ("choice", 1, 2, 2)])
        self.rules(((1, 2, 3), (), [(1, 2, 3), (-1, 2, 3)]), policy, 1, [("open",), ("choice", 1, 0, 0)])
        self.rules(((1, 2, 3), (), [(1, 2, 3), (-1, 2, 3)]), PLAIN, 1, [("open",), ("open",), ("choice", 1, 0, 1)])
        # A node that is used again takes no fuel.
        self.assertEqual(decisions(((1, 2, 3), (), residue_of([(1, 2, 3), (-1, 2, 3)])), policy), 2)
        self.assertEqual(decisions(((1, 2, 3), (), residue_of([(1, 2, 3), (-1, 2, 3)])), PLAIN), 3)

    def test_no_policy(self):
        for policy in (None, (), "usual", PLAIN[:4], (("least",), 0, 0, 0, 0), (("row", (1, 1)), True, True, True, True),
                       list(USUAL), (("row", (True,)), True, True, True, True)):
            for clauses in ((), ((),), ((1, 2),)):
                with self.assertRaises(PolicyError):
                    compile_sheet(((1, 2), (), clauses), policy)
                with self.assertRaises(PolicyError):
                    compile_sheet(((1, 2), (), clauses), policy, fuel=0)
                with self.assertRaises(PolicyError):
                    decisions(((1, 2), (), clauses), policy)


class Many(unittest.TestCase):
    def test_every_policy(self):
        source = random.Random(821)
        policies = every_policy()
        for turn in range(25):
            formula = some_formula(source, clauses=10)
            weights = some_weights(source, formula)
            wanted = plain_sum(formula, weights)
            rows = plain_models(formula)
            before = copy.deepcopy((formula, policies))
            for policy in policies:
                sheet = compile_sheet(formula, policy)
                self.assertIsNone(refusal(formula, sheet))
                self.assertEqual(reached(sheet), list(range(len(sheet[1]))))
                self.assertIs(is_open(sheet), False)
                self.assertEqual(sum_of(sheet, weights), wanted)
                self.assertEqual(list(models(sheet)), rows)
            self.assertEqual((formula, policies), before)

    def test_against_the_slow_compiler(self):
        source = random.Random(822)
        for turn in range(700):
            formula = some_formula(source, sizes=(1, 2, 2, 3, 3, 3, 4), clauses=14)
            policy = some_policy(source)
            fuel = source.choice([0, 1, 2, 3, 4, 6, 9, 1000])
            self.assertEqual(compile_sheet(formula, policy, fuel=fuel), slow_sheet(formula, policy, fuel))

    def test_each_fuel(self):
        source = random.Random(823)
        for turn in range(150):
            formula = some_formula(source, shown=6, hidden=4, clauses=14, sizes=(2, 3, 3))
            policy = some_policy(source)
            weights = some_weights(source, formula)
            wanted = Fraction(*plain_sum(formula, weights))
            least = decisions(formula, policy)
            last = (Fraction(0), None)
            for fuel in list(range(least + 3)) + [100000]:
                sheet = compile_sheet(formula, policy, fuel=fuel)
                self.assertIsNone(refusal(formula, sheet))
                self.assertEqual(reached(sheet), list(range(len(sheet[1]))))
                self.assertIs(is_open(sheet), fuel < least)
                low, high = [Fraction(*bound) for bound in bounds(sheet, weights)]
                self.assertLessEqual(last[0], low)
                self.assertTrue(last[1] is None or high <= last[1])
                self.assertTrue(low <= wanted <= high)
                last = (low, high)
            self.assertEqual(last, (wanted, wanted))

    def test_fuel_has_a_default(self):
        formula = odd_formula(8)
        self.assertEqual(compile_sheet(formula, PLAIN), compile_sheet(formula, PLAIN, fuel=100000))
        with self.assertRaises(TypeError):
            compile_sheet(formula, PLAIN, 100)


class Large(unittest.TestCase):
    def test_a_long_row(self):
        formula = path_formula(999)
        with Shallow():
            for policy in (USUAL, (("least",), True, True, True, True), (("least",), False, True, False, False)):
                sheet = compile_sheet(formula, policy)
                self.assertIsNone(refusal(formula, sheet))
                self.assertEqual(sum_of(sheet, ()), (path_counts(999), 1))
                self.assertLess(len(sheet[1]), 4000)
            self.assertEqual(decisions(formula, (("least",), False, True, False, False)), 998)

    def test_many_units(self):
        # Held by the first one alone, all others follow.
        clauses = [(1,)] + [(-v, v + 1) for v in range(1, 999)]
        clauses = residue_of([tuple(sorted(clause, key=abs)) for clause in clauses])
        formula = (tuple(range(1, 1000)), (), clauses)
        with Shallow():
            for policy in (PLAIN, USUAL):
                sheet = compile_sheet(formula, policy, fuel=0)
                self.assertEqual(tally(sheet), [("unit", 999), ("yes", 1)])
                self.assertEqual(sum_of(sheet, ()), (1, 1))

    def test_all_variables_and_clauses(self):
        source = random.Random(824)
        rows = {}
        while len(rows) < 20000:
            names = sorted(source.sample(range(1, 1000), 3))
            rows[tuple(v * source.choice([1, -1]) for v in names)] = True
        residue = residue_of(list(rows))
        with Shallow():
            for shown in (999, 500, 0):
                formula = (tuple(range(1, shown + 1)), tuple(range(shown + 1, 1000)), residue)
                for fuel in (0, 5):
                    sheet = compile_sheet(formula, USUAL, fuel=fuel)
                    self.assertIsNone(refusal(formula, sheet))
                    self.assertIs(is_open(sheet), True)
                    low, high = bounds(sheet, ())
                    self.assertLessEqual(Fraction(*low), Fraction(*high))

    def test_many_nodes(self):
        with Shallow():
            sheet = compile_sheet(odd_formula(15), PLAIN)
            self.assertGreater(len(sheet[1]), 70000)
            self.assertIsNone(refusal(sheet[0], sheet))


if __name__ == "__main__":
    unittest.main()
