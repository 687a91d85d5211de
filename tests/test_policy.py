"""Tests of [8.1]: policies."""

import copy
import random
import unittest

from common import every_policy, some_formula, some_policy
from countsworn.clauses import residue_of, variables_of
from countsworn.policy import PLAIN, USUAL, chosen, is_policy

FLAGS = (True, False, True, False)


def of_order(*order):
    return (tuple(order),) + FLAGS


class Named(unittest.TestCase):
    def test_values(self):
        self.assertEqual(PLAIN, (("least",), False, False, False, False))
        self.assertEqual(USUAL, (("most",), True, True, True, True))
        for policy in (PLAIN, USUAL):
            self.assertTrue(all(flag is True or flag is False for flag in policy[1:]))
            self.assertIs(is_policy(policy), True)


class Forms(unittest.TestCase):
    def refused(self, value):
        self.assertIs(is_policy(value), False, value)

    def test_each_form(self):
        for policy in every_policy():
            self.assertIs(is_policy(policy), True, policy)
        for row in ((), (1,), (999,), (3, 1, 2), tuple(range(999, 0, -1))):
            self.assertIs(is_policy(of_order("row", row)), True)

    def test_no_policies(self):
        for value in (None, True, False, 0, 5, "", "least", (), [], (("least",),), ("least",), list(PLAIN),
                      PLAIN[:4], PLAIN + (True,), ("least", True, True, True, True), (PLAIN,), (None,) * 5, (1,) * 5,
                      (["least"],) + FLAGS, FLAGS, FLAGS + (("least",),), {"a": 1}):
            self.refused(value)

    def test_orders(self):
        for order in ((), ("most", ()), ("least", (1,)), ("row",), ("row", (1,), (2,)), ("row", 1, 2), ("Least",),
                      ("mos",), ("",), (None,), (0,), (True,), (("least",),), ("rows", (1,)), ("row", (1,), 5),
                      ("least", "most"), (["least"],), ("row ", (1,))):
            self.refused((order,) + FLAGS)
        for order in (None, True, 0, "least", "most", "row", ["least"], ["row", (1,)]):
            self.refused((order,) + FLAGS)

    def test_rows(self):
        for row in (None, True, 0, 1, "", "ab", [], [1, 2], (1, 1), (1, 2, 1), (0,), (-1,), (1, -1), (1000,), (True,),
                    (2, True), (False,), (None,), ("a",), ((1,),), ([1],), (1, None), (1, 2, 10 ** 9), {1: 2}):
            self.refused(of_order("row", row))

    def test_flags(self):
        for at in range(1, 5):
            for flag in (None, 0, 1, -1, 2, "", "True", (), (True,), []):
                self.refused(PLAIN[:at] + (flag,) + PLAIN[at + 1:])
                self.refused(USUAL[:at] + (flag,) + USUAL[at + 1:])

    def test_deep(self):
        deep = ()
        for _ in range(300):
            deep = (deep,)
        for value in (deep, (deep,) * 5, of_order("row", deep), (deep,) + FLAGS, PLAIN[:4] + (deep,)):
            self.refused(value)


class Chosen(unittest.TestCase):
    FORMULA = ((2, 3, 5, 7), (1, 4, 6), residue_of([(1, 2), (1, 3), (-3, 5), (1, 4, 5), (6, 7)]))

    def picked(self, order, clauses, wanted):
        residue = residue_of(clauses)
        for flags in (FLAGS, (False, True, False, True)):
            self.assertEqual(chosen(self.FORMULA, (order,) + flags, residue), wanted)

    def test_least(self):
        self.picked(("least",), self.FORMULA[2], 2)
        self.picked(("least",), [(1, 4), (4, 5), (-3, 6)], 3)
        self.picked(("least",), [(1, 4), (4, 6, -7)], 7)
        self.picked(("least",), [(-5,), (1,)], 5)

    def test_most(self):
        self.picked(("most",), self.FORMULA[2], 3)
        self.picked(("most",), [(2, 3), (3, 5), (5, 7)], 3)
        self.picked(("most",), [(2, 3), (3, 5), (-5, 7), (5, 7)], 5)
        self.picked(("most",), [(1, 2), (1, 3), (1, 7), (1, -7)], 7)
        self.picked(("most",), [(2,), (-2, 5), (2, 5), (3, -5)], 2)

    def test_most_ties(self):
        self.picked(("most",), [(5, 7)], 5)
        self.picked(("most",), [(-7,), (-5,), (1, 4), (1, 6)], 5)
        self.picked(("most",), [(2, 7), (3, 7), (3, 5), (2, 5)], 2)
        self.picked(("most",), [(1, 7), (2, 3), (-2, 7), (-3, 6)], 2)

    def test_both_signs_count(self):
        self.picked(("most",), [(2, 3), (-5, 6), (1, 5), (4, -5)], 5)

    def test_row(self):
        self.picked(("row", (5, 3, 2)), self.FORMULA[2], 5)
        self.picked(("row", (5, 3, 2)), [(2, 3)], 3)
        self.picked(("row", (7, 2)), [(2, 3), (3, 5)], 2)
        self.picked(("row", (999, 998, 7)), self.FORMULA[2], 7)
        self.picked(("row", (7,)), [(6, -7), (2, 3)], 7)

    def test_row_of_hidden_variables(self):
        self.picked(("row", (1, 4, 6, 5)), self.FORMULA[2], 5)
        self.picked(("row", (1, 4, 6)), self.FORMULA[2], 2)

    def test_row_without_any_there(self):
        self.picked(("row", ()), self.FORMULA[2], 2)
        self.picked(("row", (2, 3)), [(5, 6), (5, 7)], 5)
        self.picked(("row", (100, 101)), [(6, 7)], 7)

    def test_many(self):
        source = random.Random(81)
        for _ in range(500):
            formula = some_formula(source, shown=6)
            policy = some_policy(source)
            there = [v for v in variables_of(formula[2]) if v in formula[0]]
            before = copy.deepcopy((formula, policy))
            if there:
                found = chosen(formula, policy, formula[2])
                counts = {v: sum(v in map(abs, clause) for clause in formula[2]) for v in there}
                wanted = min(there)
                if policy[0][0] == "most":
                    wanted = min(v for v in there if counts[v] == max(counts.values()))
                if policy[0][0] == "row":
                    wanted = ([v for v in policy[0][1] if v in there] + [wanted])[0]
                self.assertEqual(found, wanted)
            self.assertEqual((formula, policy), before)


if __name__ == "__main__":
    unittest.main()
