"""Tests of [2.3] and [2.5]: formulas and weights."""

import unittest

from countsworn.clauses import are_weights, formula_faults, weight_of

FORMULA = ((1, 2, 5), (3, 4), ((-1, 2), (2, -3, 4), (5,)))
ODD = [None, True, False, 0, 7, -1, "", "abc", [], [1, 2]]


class Faults(unittest.TestCase):
    def every(self, rows):
        for value, codes in rows:
            self.assertEqual(formula_faults(value), codes, value)

    def test_formulas_without_faults(self):
        self.every([(FORMULA, []), (((), (), ()), []), (((), (), ((),)), []), (((1,), (), ()), []),
                    (((), (1,), ((1,),)), []), (((2,), (1,), ((-1, 2), (1, -2))), []), (((999,), (), ((-999,),)), []),
                    ((tuple(range(1, 1000)), (), ((1, 999),)), []), (((2,), (1, 3), ()), [])])
        self.assertIsInstance(formula_faults(FORMULA), list)

    def test_form(self):
        for value in ODD:
            self.every([(value, ["form"]), ((value, (), ()), ["form"]), (((), value, ()), ["form"]),
                        (((), (), value), ["form"])])
        self.every([((), ["form"]), (((), ()), ["form"]), (((), (), (), ()), ["form"]), ([(), (), ()], ["form"]),
                    (((1,), [2], ((1,),)), ["form"]), (((1,), (2,), [(1,)]), ["form"]), ((1, 2, 3), ["form"])])

    def test_form_is_alone(self):
        self.every([(((1, 1), (1,), None), ["form"]), (([], (0,), ((5,), 3)), ["form"]),
                    ((("a",), ("a",), ((2, 1),), ()), ["form"])])

    def test_variable(self):
        for item in ODD + [1000, 10 ** 20, -5, (), (1,)]:
            if not (item.__class__ is int and 1 <= item <= 999):
                self.every([(((item,), (), ()), ["variable"]), (((), (item,), ()), ["variable"]),
                            (((1, item), (), ()), ["variable"]), (((1,), (2, item), ()), ["variable"]),
                            (((item, 999), (), ()), ["variable"])])

    def test_variables_out_of_order(self):
        self.every([(((2, 1), (), ()), ["variable"]), (((), (5, 4), ()), ["variable"]),
                    (((1, 1), (), ()), ["variable"]), (((), (3, 3), ()), ["variable"]),
                    (((1, 3, 2), (4,), ()), ["variable"])])

    def test_both(self):
        self.every([(((1,), (1,), ()), ["both"]), (((1, 2, 3), (3, 4), ()), ["both"]),
                    (((999,), (998, 999), ((998,),)), ["both"])])

    def test_both_beside_other_variables(self):
        self.every([(((1, 1), (1,), ()), ["both", "variable"]), (((2, 1), (1, 2), ()), ["both", "variable"]),
                    (((1, "a"), (1,), ()), ["both", "variable"]), (((1, []), ([], 1), ()), ["both", "variable"]),
                    (((3, 2), (1,), ()), ["variable"])])

    def test_both_is_of_variables_alone(self):
        self.every([(((1,), (True,), ()), ["variable"]), (((True,), (1,), ()), ["variable"]),
                    (((True,), (True,), ()), ["variable"]), (((0,), (0,), ()), ["variable"]),
                    (((1000,), (1000,), ()), ["variable"]), ((("a",), ("a",), ()), ["variable"]),
                    (((None,), (None,), ()), ["variable"]), (((-1,), (1,), ()), ["variable"])])

    def test_clause(self):
        for item in ODD + [(0,), (1000,), (-1000,), (2, 1), (1, 1), (-1, 1), (1, -1), (True,), ("1",), (None,), ((1,),),
                           ([],), [1]]:
            self.every([(((1, 2), (), (item,)), ["clause"]), (((1, 2), (), ((1,), item)), ["clause"])])

    def test_order(self):
        self.every([(((1, 2), (), ((2,), (1,))), ["order"]), (((1, 2), (), ((1,), (-1,))), ["order"]),
                    (((1, 2), (), ((1,), (1,))), ["order"]), (((1, 2), (), ((), ())), ["order"]),
                    (((1, 2), (), ((1, 2), (1,))), ["order"]), (((1, 2), (), ((1,), ())), ["order"]),
                    (((1, 2), (), ((1,), (2,), (-2,))), ["order"])])

    def test_order_is_looked_at_only_of_clauses(self):
        self.every([(((1, 2), (), ((2,), (1,), 7)), ["clause"]), (((1, 2), (), ((2, 1), (1,))), ["clause"]),
                    (((1, 2), (), ((2,), (1, 1), (1,))), ["clause"])])

    def test_unknown(self):
        self.every([(((1,), (), ((2,),)), ["unknown"]), (((1,), (), ((-2,),)), ["unknown"]),
                    (((), (), ((1,),)), ["unknown"]), (((1,), (2,), ((1, 2, -3),)), ["unknown"]),
                    (((1,), (3,), ((1,), (1, 2), (3,))), ["unknown"])])

    def test_unknown_is_looked_at_in_clauses_alone(self):
        self.every([(((1,), (), ((3, 2),)), ["clause"]), (((1,), (), ((1,), (5, 5))), ["clause"]),
                    (((1,), (), ((1,), 7)), ["clause"]), (((1,), (), ((2,), 7)), ["clause", "unknown"]),
                    (((1,), (), (7, (2,))), ["clause", "unknown"])])

    def test_unknown_is_not_looked_at_beside_variable(self):
        self.every([(((1, 1), (), ((2,),)), ["variable"]), (((1,), (0,), ((2,),)), ["variable"]),
                    (((True,), (), ((1,),)), ["variable"]), (((1,), (3, 2), ((9,),)), ["variable"])])

    def test_several(self):
        self.every([(((1,), (1,), ((1,), (1,))), ["both", "order"]),
                    (((1,), (1,), ((1,), 5)), ["both", "clause"]),
                    (((1,), (1,), ((2,),)), ["both", "unknown"]),
                    (((1,), (), ((2,), (1,))), ["order", "unknown"]),
                    (((1,), (1,), ((3,), (2,))), ["both", "order", "unknown"]),
                    (((1,), (1,), ((3,), None, (2,))), ["both", "clause", "unknown"]),
                    (((0,), (), ((1,), (1,))), ["order", "variable"]),
                    (((0,), (), ((2, 1), (9,))), ["clause", "variable"]),
                    (((2, 1), (1,), ((3,), (2,))), ["both", "order", "variable"]),
                    (((2, 1), (1,), ((3,), (2,), "x")), ["both", "clause", "variable"])])

    def test_arguments_stay(self):
        for value in ([[2, 1], [1], [[1], [1]]], ((2, [3]), ([3], 2), ([2, 1], (1,))), FORMULA):
            before = repr(value)
            formula_faults(value)
            self.assertEqual(repr(value), before)

    def test_bounds(self):
        every = tuple(range(1, 1000))
        residue = tuple((first, second) for first in range(1, 25) for second in range(first + 1, 900))[:20000]
        self.assertEqual(len(residue), 20000)
        self.assertEqual(formula_faults((every, (), residue)), [])
        self.assertEqual(formula_faults(((), every, residue)), [])


class Weights(unittest.TestCase):
    def right(self, value):
        self.assertIs(are_weights(FORMULA, value), True, value)

    def wrong(self, value):
        self.assertIs(are_weights(FORMULA, value), False, value)

    def test_right_ones(self):
        self.right(())
        self.right(((1, (1, 2)),))
        self.right(((-1, (1, 2)),))
        self.right(((-1, (1, 2)), (1, (1, 2))))
        self.right(((1, (0, 1)), (-2, (1, 1)), (2, (7, 3)), (-5, (10 ** 30, 1)), (5, (1, 10 ** 30))))
        self.right(((5, (2, 1)),))

    def test_order(self):
        self.wrong(((1, (1, 2)), (-1, (1, 2))))
        self.wrong(((2, (1, 2)), (1, (1, 2))))
        self.wrong(((-2, (1, 2)), (1, (1, 2))))
        self.wrong(((-1, (1, 2)), (5, (1, 2)), (2, (1, 2))))

    def test_a_literal_twice(self):
        self.wrong(((1, (1, 2)), (1, (1, 2))))
        self.wrong(((1, (1, 2)), (1, (1, 3))))
        self.wrong(((-1, (1, 2)), (2, (1, 2)), (2, (1, 2))))

    def test_variables_that_are_not_shown(self):
        for literal in (3, -3, 4, -4, 6, -6, 999, -999, 1000, 0, -1000):
            self.wrong(((literal, (1, 2)),))

    def test_literals_that_are_none(self):
        for literal in (True, False, None, "1", (1,), [1], ()):
            self.wrong(((literal, (1, 2)),))
            self.wrong(((literal, (1, 2)), (2, (1, 2))))

    def test_fractions_that_are_none(self):
        for weight in ((2, 4), (0, 2), (1, 0), (0, 0), (1, -2), (-1, -2), (3, 3), (0, -1), (1,), (1, 2, 3), (), 1, 0, "1",
                       "1/2", None, True, [1, 2], (True, 1), (1, True), (True, True), (False, 1), (1, "2"), ("1", 2),
                       (None, 1), (1, None), ([1], 2), ((1, 2), 1), (1, (1,))):
            self.wrong(((1, weight),))
            self.wrong(((-1, (1, 2)), (1, weight)))

    def test_below_nothing(self):
        for weight in ((-1, 2), (-1, 1), (-(10 ** 30), 7)):
            self.wrong(((1, weight),))

    def test_other_values(self):
        for value in ODD + [(1,), ((1,),), ((1, (1, 2), 3),), (1, (1, 2)), ((),), ([1, (1, 2)],), [(1, (1, 2))],
                            (((1, 2), 1),), (None,), ("ab",)]:
            self.wrong(value)

    def test_arguments_stay(self):
        for value in ([[1, [1, 2]]], ((1, [2, 4]), [2, (1, 1)]), ((-1, (1, 2)), (1, (1, 2)))):
            before = repr(value)
            are_weights(FORMULA, value)
            self.assertEqual(repr(value), before)

    def test_other_formulas(self):
        self.assertIs(are_weights(((), (1,), ((1,),)), ()), True)
        self.assertIs(are_weights(((), (1,), ((1,),)), ((1, (1, 1)),)), False)
        self.assertIs(are_weights(((3,), (), ()), ((-3, (1, 1)), (3, (0, 1)))), True)

    def test_weight_of(self):
        weights = ((-1, (1, 3)), (2, (0, 1)), (-5, (7, 2)), (5, (1, 1)))
        for literal, weight in [(-1, (1, 3)), (1, (1, 1)), (2, (0, 1)), (-2, (1, 1)), (-5, (7, 2)), (5, (1, 1)),
                                (9, (1, 1)), (-9, (1, 1))]:
            self.assertEqual(weight_of(weights, literal), weight, literal)
            self.assertEqual(weight_of((), literal), (1, 1))


if __name__ == "__main__":
    unittest.main()
