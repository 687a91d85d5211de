"""Tests of [2.1], [2.2] and [2.4]: literals, clauses, residues and fillings."""

import random
import unittest

from countsworn.clauses import (clause_key, clause_of, is_clause, is_residue, keeps, literal_key, residue_of, under,
                                under_all, variables_of)

ODD = [None, True, False, 0, 1, -1, 1000, "", "a", "12", "-1", [], [1], [[1]], (), ((),)]


def some_clause(source, many, size):
    """A clause of variables up to many."""
    chosen = source.sample(range(1, many + 1), source.randint(0, size))
    return tuple(source.choice((1, -1)) * variable for variable in sorted(chosen))


def slow_residue(clauses):
    """A residue by the words of the document alone."""
    return tuple(sorted(set(clauses), key=lambda row: [(abs(item), item > 0) for item in row]))


def slow_under(residue, literal):
    """A residue under a literal by the words of the document alone."""
    return slow_residue([tuple(item for item in clause if item != -literal) for clause in residue
                         if literal not in clause])


class Keys(unittest.TestCase):
    def test_literal_key(self):
        for literal, key in [(1, (1, 1)), (-1, (1, 0)), (2, (2, 1)), (-2, (2, 0)), (999, (999, 1)), (-999, (999, 0))]:
            self.assertEqual(literal_key(literal), key)
            self.assertIsInstance(literal_key(literal), tuple)
            self.assertNotIsInstance(literal_key(literal)[1], bool)

    def test_order_of_literals(self):
        self.assertEqual(sorted([3, -1, 2, 1, -3, -2, 10, -10], key=literal_key), [-1, 1, -2, 2, -3, 3, -10, 10])

    def test_clause_key(self):
        self.assertEqual(clause_key(()), ())
        self.assertEqual(clause_key((4,)), ((4, 1),))
        self.assertEqual(clause_key((-1, 3, -12)), ((1, 0), (3, 1), (12, 0)))
        self.assertIsInstance(clause_key((1, 2)), tuple)

    def test_order_of_clauses(self):
        ascending = [(), (-1,), (-1, -2), (-1, 2), (-1, 2, 3), (-1, 3), (1,), (1, -2), (1, 2), (-2,), (2,), (2, 3),
                     (-10,), (10,)]
        self.assertEqual(sorted(ascending[::-1], key=clause_key), ascending)


class Making(unittest.TestCase):
    def test_clause_of(self):
        for literals, clause in [([], ()), ([5], (5,)), ([3, -1, 2], (-1, 2, 3)), ([2, 2], (2,)),
                                 ([-7, 4, -7, 4, -7], (4, -7)), ([-3, 2], (2, -3)), ([999, -1], (-1, 999)),
                                 ([-2, -1], (-1, -2)), ([10, 9, -8], (-8, 9, 10))]:
            self.assertEqual(clause_of(literals), clause)
            self.assertIsInstance(clause_of(literals), tuple)

    def test_both_signs(self):
        for literals in ([1, -1], [-1, 1], [3, 2, -3], [-9, 4, 5, 9, 9], [2, 2, -2], [1, 2, 3, -2, 4]):
            self.assertIsNone(clause_of(literals))

    def test_residue_of(self):
        self.assertEqual(residue_of([]), ())
        self.assertEqual(residue_of([()]), ((),))
        self.assertEqual(residue_of([(2,), (1,), (-1,)]), ((-1,), (1,), (2,)))
        self.assertEqual(residue_of([(1, 2), (1,), (), (1, -2)]), ((), (1,), (1, -2), (1, 2)))
        self.assertEqual(residue_of([(3,), (2, 3), (3,), (2, 3), (3,)]), ((2, 3), (3,)))
        self.assertEqual(residue_of([(10,), (9,), (-10,)]), ((9,), (-10,), (10,)))
        self.assertIsInstance(residue_of([(2,)]), tuple)

    def test_variables_of(self):
        self.assertEqual(variables_of(()), ())
        self.assertEqual(variables_of(((),)), ())
        self.assertEqual(variables_of(((-3, 12), (2, -7), (7,))), (2, 3, 7, 12))
        self.assertEqual(variables_of(((1, 2, 3), (-1, -2, -3))), (1, 2, 3))
        self.assertEqual(variables_of(((999,),)), (999,))
        self.assertIsInstance(variables_of(((1,),)), tuple)

    def test_arguments_stay(self):
        literals, clauses = [3, 1, 3, -2], [(2,), (1,), (2,)]
        clause_of(literals)
        residue_of(clauses)
        self.assertEqual((literals, clauses), ([3, 1, 3, -2], [(2,), (1,), (2,)]))


class Under(unittest.TestCase):
    def test_under(self):
        residue = ((-1, 2), (1, 3), (2, -3))
        self.assertEqual(under(residue, 1), ((2,), (2, -3)))
        self.assertEqual(under(residue, -1), ((2, -3), (3,)))
        self.assertEqual(under(residue, 2), ((1, 3),))
        self.assertEqual(under(residue, -2), ((-1,), (1, 3), (-3,)))
        self.assertEqual(under(residue, 9), residue)
        self.assertEqual(under(residue, -9), residue)

    def test_the_empty_ones(self):
        self.assertEqual(under((), 1), ())
        self.assertEqual(under(((),), 1), ((),))
        self.assertEqual(under(((1,),), 1), ())
        self.assertEqual(under(((1,),), -1), ((),))
        self.assertEqual(under(((), (1,)), -1), ((),))
        self.assertEqual(under(((1,), (2,)), -1), ((), (2,)))

    def test_clauses_that_become_equal(self):
        self.assertEqual(under(((1, 2), (2,)), -1), ((2,),))
        self.assertEqual(under(((1, 3), (2, 3), (3,)), -1), ((2, 3), (3,)))
        self.assertEqual(under(((-1, 2, 3), (2, 3)), 1), ((2, 3),))

    def test_the_order_is_made_anew(self):
        self.assertEqual(under(((-1, 9), (1, 2), (2, 3)), 1), ((2, 3), (9,)))
        self.assertEqual(under(((1, 5), (1, -5), (-2,), (6,)), -1), ((-2,), (-5,), (5,), (6,)))

    def test_under_all(self):
        residue = ((-1, 2), (1, 3), (2, -3))
        self.assertEqual(under_all(residue, []), residue)
        self.assertEqual(under_all(residue, [1]), ((2,), (2, -3)))
        self.assertEqual(under_all(residue, [1, -2]), ((), (-3,)))
        self.assertEqual(under_all(residue, [-2, 1]), ((), (-3,)))
        self.assertEqual(under_all(residue, [2, 3]), ())
        self.assertEqual(under_all(residue, [1, 1]), ((2,), (2, -3)))

    def test_literals_are_given_in_order(self):
        self.assertEqual(under_all(((1,),), [1, -1]), ())
        self.assertEqual(under_all(((1,),), [-1, 1]), ((),))

    def test_many_against_plain_words(self):
        source = random.Random(7)
        for _ in range(300):
            residue = slow_residue([some_clause(source, 6, 4) for _ in range(source.randint(0, 14))])
            self.assertTrue(is_residue(residue))
            row = [source.choice((1, -1)) * source.randint(1, 7) for _ in range(3)]
            expected = residue
            for literal in row:
                self.assertEqual(under(expected, literal), slow_under(expected, literal))
                expected = slow_under(expected, literal)
            self.assertEqual(under_all(residue, row), expected)
            self.assertTrue(is_residue(under_all(residue, row)))

    def test_arguments_stay(self):
        residue, literals = ((1, 2), (-2, 3)), [1, -3, 1]
        under_all(residue, literals)
        under(residue, -2)
        self.assertEqual((residue, literals), (((1, 2), (-2, 3)), [1, -3, 1]))


class Forms(unittest.TestCase):
    def test_clauses(self):
        for value in ((), (1,), (-1,), (999,), (-999,), (1, 2), (-1, 2), (1, -2), (3, -7, 12), tuple(range(1, 1000)),
                      tuple(-v for v in range(1, 1000))):
            self.assertIs(is_clause(value), True, value)

    def test_literals_that_are_none(self):
        for item in ODD:
            self.assertIs(is_clause((item,)), item.__class__ is int and item in (1, -1), item)
            self.assertIs(is_clause((-5, item)), False, item)
            self.assertIs(is_clause((item, 1000)), False, item)
        for item in (0, 1000, -1000, 10 ** 30, -10 ** 30):
            self.assertIs(is_clause((item,)), False, item)

    def test_clauses_out_of_order(self):
        for value in ((2, 1), (-2, 1), (-2, -1), (1, 3, 2), (1, 1), (-1, 1), (1, -1), (-4, -4), (1, 2, -2)):
            self.assertIs(is_clause(value), False, value)

    def test_values_that_are_no_clause(self):
        for value in ODD:
            self.assertIs(is_clause(value), value == () and value.__class__ is tuple, value)
        self.assertIs(is_clause([1, 2]), False)
        self.assertIs(is_clause((True,)), False)
        self.assertIs(is_clause((False, 2)), False)

    def test_residues(self):
        for value in ((), ((),), ((1,),), ((), (1,)), ((-1,), (1,)), ((1,), (1, 2)), ((1, 2), (2,)),
                      ((-1, 5), (1, -2), (1, 2), (9,), (-10,))):
            self.assertIs(is_residue(value), True, value)

    def test_residues_out_of_order(self):
        for value in (((1,), ()), ((1,), (-1,)), ((1, 2), (1,)), ((2,), (1, 3)), ((1, 2), (1, -2)), ((10,), (9,))):
            self.assertIs(is_residue(value), False, value)

    def test_repeated_clauses(self):
        for value in (((), ()), ((1,), (1,)), ((1,), (2, 3), (2, 3))):
            self.assertIs(is_residue(value), False, value)

    def test_values_that_are_no_residue(self):
        for value in ODD:
            self.assertIs(is_residue(value), value == ((),) or (value == () and value.__class__ is tuple), value)
            self.assertIs(is_residue((value,)), value == () and value.__class__ is tuple, value)
            self.assertIs(is_residue(((value,),)), value.__class__ is int and value in (1, -1), value)
        for value in ([(1,)], ([1],), ((1,), [2]), (1,), ((1,), 2), ((2, 1),), ((1,), (True, 2)), ((0,),), ((1000,),)):
            self.assertIs(is_residue(value), False, value)

    def test_values_nested_deep(self):
        value = ()
        for _ in range(60):
            value = (value,)
        self.assertIs(is_clause(value), False)
        self.assertIs(is_residue(value), False)


class Keeping(unittest.TestCase):
    def test_keeps(self):
        residue = ((-1, 2), (1, 3), (2, -3))
        for filling, kept in [((1, 2, 3), True), ((1, 2, -3), True), ((-1, 2, 3), True), ((-1, -2, 3), False),
                              ((1, -2, 3), False), ((-1, 2, -3), False), ((1, -2, -3), False)]:
            self.assertIs(keeps(residue, filling), kept, filling)

    def test_the_empty_ones(self):
        self.assertIs(keeps((), ()), True)
        self.assertIs(keeps((), (1, 2)), True)
        self.assertIs(keeps(((),), ()), False)
        self.assertIs(keeps(((),), (1, -2)), False)
        self.assertIs(keeps(((), (1,)), (1,)), False)

    def test_signs(self):
        self.assertIs(keeps(((1,),), (1,)), True)
        self.assertIs(keeps(((1,),), (-1,)), False)
        self.assertIs(keeps(((-1,),), (-1,)), True)
        self.assertIs(keeps(((-1,),), (1,)), False)

    def test_more_variables_than_the_residue_has(self):
        self.assertIs(keeps(((2, 5),), (-1, -2, 3, 5, -6)), True)
        self.assertIs(keeps(((2, 5),), (-1, -2, 3, -5, 6)), False)


class Great(unittest.TestCase):
    def test_bounds(self):
        source = random.Random(3)
        clauses = [clause for clause in [some_clause(source, 999, 4) for _ in range(20500)] if clause]
        residue = residue_of(clauses)
        self.assertTrue(is_residue(residue))
        self.assertEqual(set(residue), set(clauses))
        self.assertEqual(under(residue, 500), slow_under(residue, 500))
        self.assertEqual(clause_of(list(range(999, 0, -1))), tuple(range(1, 1000)))


if __name__ == "__main__":
    unittest.main()
