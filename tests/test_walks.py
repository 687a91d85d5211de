"""Tests of [7.1] to [7.4]: sums, bounds, chances, what is sure and what is possible."""

import copy
import random
import unittest
from fractions import Fraction

from common import (Shallow, given_models, odd_formula, pair_of, path_counts, path_formula, some_formula, some_policy,
                    some_weights, sums_by_literal, wild_sheet)
from countsworn.checker import check
from countsworn.clauses import residue_of, variables_of
from countsworn.compiler import compile_sheet
from countsworn.errors import NoFilling, OpenSheet
from countsworn.fractions import fraction, over, plus, times
from countsworn.plain import plain_models, plain_sum
from countsworn.policy import PLAIN, USUAL
from countsworn.sheets import is_open
from countsworn.walks import bounds, chances, is_possible, literal_sums, node_sums, sum_of, surely


def own_sum(formula, weights, residue):
    """What [6.2] says of a node with this residue, by the tables."""
    shown = tuple(v for v in variables_of(residue) if v in formula[0])
    hidden = tuple(v for v in variables_of(residue) if v not in formula[0])
    return plain_sum((shown, hidden, residue), tuple(pair for pair in weights if abs(pair[0]) in shown))


def sheet_by_hand(shown, *pairs):
    """A sheet of nodes by hand, of which check takes it."""
    nodes = tuple((residue_of(list(clauses)), rule) for clauses, rule in pairs)
    hidden = tuple(v for v in range(1, 10) if v not in shown)
    sheet = ((shown, hidden, nodes[-1][0]), nodes)
    assert check(sheet[0], sheet), sheet
    return sheet


# 1 or 2, and if 1 then 3; 4 is in no clause.
HAND = sheet_by_hand((1, 2, 3, 4), ([], ("yes",)), ([(3,)], ("unit", 3, 0)), ([(2,)], ("unit", 2, 0)),
                     ([(-1, 3), (1, 2)], ("choice", 1, 1, 2)))
HALVES = ((-1, (1, 2)), (1, (1, 3)), (2, (1, 5)), (3, (2, 7)), (-4, (3, 1)))


class NodeSums(unittest.TestCase):
    def sums(self, sheet, weights, wanted):
        found = node_sums(sheet, weights)
        self.assertEqual(found, wanted)
        self.assertEqual(found, [own_sum(sheet[0], weights, residue) for residue, _ in sheet[1]])
        self.assertIsInstance(found, list)

    def test_by_hand(self):
        self.sums(HAND, (), [(1, 1), (1, 1), (1, 1), (4, 1)])
        # 1 and 3 with 2 or not: 1/3 * 2/7 * 6/5; not 1, with 2, with 3 or not: 1/2 * 1/5 * 9/7.
        self.sums(HAND, HALVES, [(1, 1), (2, 7), (1, 5), (17, 70)])
        self.assertEqual(fraction(1 * 2 * 6 * 70 + 9 * 105, 105 * 70), (17, 70))

    def test_each_rule(self):
        weights = ((-1, (2, 1)), (1, (3, 1)), (-2, (5, 1)), (2, (7, 1)))
        shown = (1, 2)
        self.sums(sheet_by_hand(shown, ([], ("yes",))), weights, [(1, 1)])
        self.sums(sheet_by_hand(shown, ([()], ("no",))), weights, [(0, 1)])
        self.sums(sheet_by_hand(shown, ([(), (1, 2)], ("no",))), weights, [(0, 1)])
        self.sums(sheet_by_hand(shown, ([(-1,), (1,), (1, 2)], ("refuted", ((),)))), weights, [(0, 1)])
        self.sums(sheet_by_hand(shown, ([(7, 8)], ("some", (7, 8)))), weights, [(1, 1)])
        yes = ([], ("yes",))
        self.sums(sheet_by_hand(shown, yes, ([(1,)], ("unit", 1, 0))), weights, [(1, 1), (3, 1)])
        self.sums(sheet_by_hand(shown, yes, ([(-1,)], ("unit", -1, 0))), weights, [(1, 1), (2, 1)])
        self.sums(sheet_by_hand(shown, yes, ([(7,)], ("unit", 7, 0))), weights, [(1, 1), (1, 1)])
        # A variable that is gone with the unit's clauses.
        self.sums(sheet_by_hand(shown, yes, ([(1,), (1, 2)], ("unit", 1, 0))), weights, [(1, 1), (36, 1)])
        self.sums(sheet_by_hand(shown, yes, ([(7,), (2, 7)], ("unit", 7, 0))), weights, [(1, 1), (12, 1)])
        one, two = ([(1,)], ("unit", 1, 0)), ([(2,)], ("unit", 2, 0))
        self.sums(sheet_by_hand(shown, yes, two, ([(1, 2)], ("choice", 1, 0, 1))), weights, [(1, 1), (7, 1), (50, 1)])
        self.sums(sheet_by_hand(shown, yes, ([()], ("no",)), ([(1,)], ("choice", 1, 0, 1))), weights,
                  [(1, 1), (0, 1), (3, 1)])
        self.sums(sheet_by_hand(shown, yes, one, two, ([(1,), (2,)], ("parts", (1, 2)))), weights,
                  [(1, 1), (3, 1), (7, 1), (21, 1)])
        self.sums(sheet_by_hand(shown, yes, one, ([(1,), (1, 2)], ("less", 1))), weights, [(1, 1), (3, 1), (36, 1)])
        self.sums(sheet_by_hand(shown, yes, ([(1,), (1, 2), (1, -2)], ("unit", 1, 0)),
                                ([(1, 2), (1, -2)], ("more", (1,), 1))), weights, [(1, 1), (36, 1), (36, 1)])

    def test_parts_of_both_kinds(self):
        # No variable of another part counts as gone, and hidden ones weigh nothing.
        sheet = sheet_by_hand((1, 2, 3), ([], ("yes",)), ([(2,)], ("unit", 2, 0)), ([(1, 2)], ("choice", 1, 0, 1)),
                              ([(3,), (3, 7)], ("unit", 3, 0)), ([(8, 9)], ("some", (8, 9))),
                              ([(1, 2), (3,), (3, 7), (8, 9)], ("parts", (2, 3, 4))))
        self.sums(sheet, ((-1, (1, 2)), (3, (1, 3))), [(1, 1), (1, 1), (5, 2), (1, 3), (1, 1), (5, 6)])

    def test_open_counts_as_nothing(self):
        self.assertEqual(node_sums(sheet_by_hand((1,), ([(1,)], ("open",))), ()), [(0, 1)])
        sheet = sheet_by_hand((1, 2, 3), ([(3,)], ("open",)), ([], ("yes",)), ([(2,)], ("unit", 2, 1)),
                              ([(-1, 3), (1, 2)], ("choice", 1, 0, 2)))
        self.assertEqual(node_sums(sheet, ()), [(0, 1), (1, 1), (1, 1), (2, 1)])

    def test_weights_of_nothing(self):
        self.sums(HAND, ((-1, (0, 1)), (3, (0, 1))), [(1, 1), (0, 1), (1, 1), (0, 1)])
        self.sums(HAND, tuple((l, (0, 1)) for v in (1, 2, 3, 4) for l in (-v, v)), [(1, 1), (0, 1), (0, 1), (0, 1)])

    def test_nodes_that_are_not_reached_too(self):
        sheet = sheet_by_hand((1, 2), ([], ("yes",)), ([(1,), (2, 7)], ("open",)), ([(2,)], ("unit", 2, 0)),
                              ([()], ("no",)), ([(1,)], ("unit", 1, 0)))
        self.assertEqual(node_sums(sheet, ((1, (1, 2)), (2, (1, 3)))), [(1, 1), (0, 1), (1, 3), (0, 1), (1, 2)])
        # Such a node may have variables that the formula has not.
        formula = ((1,), (), ())
        sheet = (formula, (((), ("yes",)), (((777,), (777, 888)), ("unit", 777, 0)), ((), ("yes",))))
        self.assertTrue(check(formula, sheet))
        self.assertEqual(node_sums(sheet, ((1, (1, 9)),)), [(1, 1), (1, 1), (1, 1)])
        self.assertEqual(sum_of(sheet, ((1, (1, 9)),)), (10, 9))


class Bounds(unittest.TestCase):
    def test_by_hand(self):
        open_root = sheet_by_hand((1, 2, 3), ([(1, 2)], ("open",)))
        self.assertEqual(bounds(open_root, ()), ((0, 1), (8, 1)))
        self.assertEqual(bounds(open_root, ((1, (1, 2)), (-3, (0, 1)), (3, (1, 3)))), ((0, 1), (1, 1)))
        first = sheet_by_hand((1, 2, 3), ([(3,)], ("open",)), ([], ("yes",)), ([(2,)], ("unit", 2, 1)),
                              ([(-1, 3), (1, 2)], ("choice", 1, 0, 2)))
        self.assertEqual(bounds(first, ()), ((2, 1), (6, 1)))
        second = sheet_by_hand((1, 2, 3), ([], ("yes",)), ([(3,)], ("unit", 3, 0)), ([(2,)], ("open",)),
                               ([(-1, 3), (1, 2)], ("choice", 1, 1, 2)))
        self.assertEqual(bounds(second, ()), ((2, 1), (6, 1)))
        self.assertEqual(bounds(second, ((-1, (1, 2)), (2, (1, 4)), (3, (3, 1)))), ((15, 4), (25, 4)))

    def test_open_nodes_that_are_not_reached(self):
        sheet = sheet_by_hand((1, 2), ([], ("yes",)), ([(1, 2)], ("open",)), ([(2,)], ("open",)),
                              ([(1,)], ("unit", 1, 0)))
        self.assertEqual(bounds(sheet, ()), ((2, 1), (2, 1)))
        self.assertEqual(sum_of(sheet, ()), (2, 1))
        self.assertEqual(literal_sums(sheet, ()), [(-1, (0, 1)), (1, (2, 1)), (-2, (1, 1)), (2, (1, 1))])
        self.assertEqual(surely(sheet), (1,))
        self.assertIs(is_possible(sheet, [1, 2]), True)

    def test_open_below_parts(self):
        sheet = sheet_by_hand((1, 2, 3), ([], ("yes",)), ([(1,)], ("unit", 1, 0)), ([(2, 3)], ("open",)),
                              ([(1,), (2, 3)], ("parts", (1, 2))))
        self.assertEqual(bounds(sheet, ((1, (1, 2)),)), ((0, 1), (2, 1)))

    def test_open_without_shown_variables(self):
        sheet = sheet_by_hand((1, 2), ([(8, 9)], ("open",)), ([(1,), (8, 9)], ("unit", 1, 0)))
        self.assertEqual(bounds(sheet, ()), ((0, 1), (2, 1)))

    def test_the_sum_is_between(self):
        source = random.Random(701)
        seen = 0
        for _ in range(600):
            formula = some_formula(source)
            weights = some_weights(source, formula)
            sheet = wild_sheet(source, formula, source.choice([0, 0.1, 0.3]))
            wanted = plain_sum(formula, weights)
            low, high = bounds(sheet, weights)
            self.assertLessEqual(Fraction(*low), Fraction(*wanted))
            self.assertLessEqual(Fraction(*wanted), Fraction(*high))
            if is_open(sheet):
                seen += 1
            else:
                self.assertEqual((low, high), (wanted, wanted))
        self.assertGreater(seen, 100)


class Tables(unittest.TestCase):
    """Every answer against the tables, for sheets made in all ways."""

    def one(self, source, formula, sheet):
        weights = some_weights(source, formula)
        wanted = plain_sum(formula, weights)
        models = plain_models(formula)
        before = copy.deepcopy((sheet, weights))
        self.assertEqual(node_sums(sheet, weights), [own_sum(formula, weights, node[0]) for node in sheet[1]])
        self.assertEqual(sum_of(sheet, weights), wanted)
        by_literal = sums_by_literal(formula, weights)
        self.assertEqual(literal_sums(sheet, weights), by_literal)
        if wanted == (0, 1):
            with self.assertRaises(NoFilling):
                chances(sheet, weights)
        else:
            self.assertEqual(chances(sheet, weights), [(literal, over(a, wanted)) for literal, a in by_literal])
        literals = [literal for v in formula[0] for literal in (-v, v)]
        self.assertEqual(surely(sheet), tuple(l for l in literals if all(l in model for model in models)))
        for many in range(4):
            given = [source.choice(literals) for _ in range(many)] if literals else []
            copied = list(given)
            self.assertIs(is_possible(sheet, given), given_models(formula, given) != [])
            self.assertEqual(given, copied)
        self.assertEqual((sheet, weights), before)

    def test_sheets_of_the_compiler(self):
        source = random.Random(702)
        for _ in range(400):
            formula = some_formula(source)
            self.one(source, formula, compile_sheet(formula, some_policy(source)))

    def test_sheets_of_all_kinds(self):
        source = random.Random(703)
        for _ in range(600):
            formula = some_formula(source)
            self.one(source, formula, wild_sheet(source, formula))


class Literals(unittest.TestCase):
    def test_by_hand(self):
        # The models: -1 2 -3, -1 2 3, 1 -2 3, 1 2 3, each with -4 and 4.
        self.assertEqual(literal_sums(HAND, ()), [(-1, (4, 1)), (1, (4, 1)), (-2, (2, 1)), (2, (6, 1)), (-3, (2, 1)),
                                                  (3, (6, 1)), (-4, (4, 1)), (4, (4, 1))])
        found = dict(literal_sums(HAND, HALVES))
        self.assertEqual(sum_of(HAND, HALVES), (34, 35))
        self.assertEqual(found[1], times((4, 1), (4, 35)))
        self.assertEqual(found[-2], times((4, 1), (2, 21)))
        self.assertEqual(plus(found[-4], found[4]), (34, 35))
        self.assertEqual(found[-4], times((3, 1), found[4]))
        self.assertEqual(dict(chances(HAND, ()))[2], (3, 4))
        self.assertEqual(dict(chances(HAND, HALVES))[-4], (3, 4))
        self.assertIsInstance(literal_sums(HAND, ()), list)
        self.assertIsInstance(chances(HAND, ()), list)

    def test_a_free_variable_without_weight(self):
        weights = ((-4, (0, 1)), (4, (0, 1)))
        self.assertEqual(literal_sums(HAND, weights), [(l, (0, 1)) for v in (1, 2, 3, 4) for l in (-v, v)])
        with self.assertRaises(NoFilling):
            chances(HAND, weights)
        weights = ((-2, (0, 1)), (2, (0, 1)))
        self.assertEqual(literal_sums(HAND, weights), [(l, (0, 1)) for v in (1, 2, 3, 4) for l in (-v, v)])

    def test_no_shown_variables(self):
        for clauses, many in (([], 1), ([(7, 8)], 1), ([()], 0)):
            sheet = compile_sheet(((), (7, 8), residue_of(clauses)), USUAL)
            self.assertEqual(sum_of(sheet, ()), (many, 1))
            self.assertEqual(literal_sums(sheet, ()), [])
            self.assertEqual(surely(sheet), ())
            self.assertIs(is_possible(sheet, []), many == 1)
            if many == 1:
                self.assertEqual(chances(sheet, ()), [])

    def test_shown_variables_in_no_clause(self):
        sheet = compile_sheet(((2, 4), (), ()), PLAIN)
        weights = ((-2, (1, 3)), (4, (5, 1)))
        self.assertEqual(node_sums(sheet, weights), [(1, 1)])
        self.assertEqual(sum_of(sheet, weights), (8, 1))
        self.assertEqual(literal_sums(sheet, weights), [(-2, (2, 1)), (2, (6, 1)), (-4, (4, 3)), (4, (20, 3))])
        self.assertEqual(chances(sheet, weights), [(-2, (1, 4)), (2, (3, 4)), (-4, (1, 6)), (4, (5, 6))])


class Sure(unittest.TestCase):
    def test_by_hand(self):
        self.assertEqual(surely(HAND), ())
        sheet = compile_sheet(((1, 2, 3, 4), (), ((-1,), (1, 2), (3, 4))), USUAL)
        self.assertEqual(surely(sheet), (-1, 2))
        self.assertIsInstance(surely(sheet), tuple)
        # What no clause says by itself.
        sheet = compile_sheet(((1, 2), (3,), ((1, 3), (1, -3))), USUAL)
        self.assertEqual(surely(sheet), (1,))

    def test_without_models(self):
        for clauses in ([()], [(-1,), (1,)], [(-2, -1), (-2, 1), (-1, 2), (1, 2)]):
            clauses = [tuple(sorted(clause, key=abs)) for clause in clauses]
            sheet = compile_sheet(((1, 2, 9), (), residue_of(clauses)), USUAL)
            self.assertEqual(surely(sheet), (-1, 1, -2, 2, -9, 9))
            self.assertIs(is_possible(sheet, []), False)
            self.assertIs(is_possible(sheet, [9]), False)

    def test_possible(self):
        for literals, wanted in (([], True), ([1], True), ([-1, -2], False), ([1, -3], False), ([1, 3], True),
                                 ([-4], True), ([4, -4], False), ([-1, 1], False), ([1, 1], True), ([3, 1, 3], True),
                                 ([-4, 2, -1, -3], True), ([-2, 4, -1], False)):
            self.assertIs(is_possible(HAND, literals), wanted, literals)


class Raised(unittest.TestCase):
    OPEN = [sheet_by_hand((1, 2), ([(1, 2)], ("open",))),
            sheet_by_hand((1, 2), ([], ("open",))),
            sheet_by_hand((1, 2), ([()], ("open",))),
            sheet_by_hand((1, 2), ([], ("yes",)), ([(2,)], ("open",)), ([(1, 2)], ("choice", 1, 0, 1)))]

    def test_open_sheets(self):
        for sheet in self.OPEN:
            for weights in ((), ((1, (1, 2)),), ((-1, (0, 1)), (1, (0, 1)))):
                for function in (sum_of, literal_sums, chances):
                    with self.assertRaises(OpenSheet):
                        function(sheet, weights)
                node_sums(sheet, weights)
                bounds(sheet, weights)
            with self.assertRaises(OpenSheet):
                surely(sheet)
            for literals in ([], [1], [1, -1]):
                with self.assertRaises(OpenSheet):
                    is_possible(sheet, literals)

    def test_no_filling(self):
        sheet = compile_sheet(((1,), (), ((),)), USUAL)
        with self.assertRaises(NoFilling):
            chances(sheet, ())
        with self.assertRaises(NoFilling):
            chances(HAND, ((2, (0, 1)), (3, (0, 1))))
        self.assertEqual(sum_of(sheet, ()), (0, 1))
        self.assertEqual(literal_sums(sheet, ()), [(-1, (0, 1)), (1, (0, 1))])


class Large(unittest.TestCase):
    def test_a_long_row(self):
        with Shallow():
            for policy in (USUAL, (("least",), False, True, False, False)):
                formula = path_formula(999)
                sheet = compile_sheet(formula, policy)
                self.assertEqual(sum_of(sheet, ()), (path_counts(999), 1))
                self.assertEqual(bounds(sheet, ()), ((path_counts(999), 1), (path_counts(999), 1)))
                found = dict(literal_sums(sheet, ()))
                # With the first one not held the second one must be.
                self.assertEqual(found[-1], (path_counts(997), 1))
                self.assertEqual(found[1], (path_counts(998), 1))
                self.assertEqual(found[-500], (path_counts(498) * path_counts(498), 1))
                self.assertEqual(surely(sheet), ())
                self.assertIs(is_possible(sheet, list(range(1, 999, 2))), True)
                self.assertIs(is_possible(sheet, [-1, -2]), False)
                self.assertEqual(node_sums(sheet, ())[-1], (path_counts(999), 1))

    def test_many_nodes(self):
        # Without a cache there is a node for each beginning of a filling of fifteen variables.
        formula = odd_formula(15)
        with Shallow():
            sheet = compile_sheet(formula, PLAIN)
            self.assertGreater(len(sheet[1]), 70000)
            weights = tuple((literal, (1, 2 + v % 3)) for v in range(1, 16, 2) for literal in (-v, v) if v != literal)
            free, apart = Fraction(1), Fraction(1)
            for v in range(1, 16):
                low = Fraction(*dict(weights).get(-v, (1, 1)))
                free, apart = free * (low + 1), apart * (low - 1)
            self.assertEqual(sum_of(sheet, weights), pair_of((free - apart) / 2))
            self.assertEqual(literal_sums(sheet, ()), [(l, (2 ** 13, 1)) for v in range(1, 16) for l in (-v, v)])
            self.assertEqual(surely(sheet), ())
            self.assertEqual(len(node_sums(sheet, weights)), len(sheet[1]))


if __name__ == "__main__":
    unittest.main()
