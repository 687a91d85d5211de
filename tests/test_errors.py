"""Tests of [1.2]: errors."""

import unittest

from countsworn.errors import (ChangeError, CountsError, ExpressionError, FormulaError, NoFilling, OpenSheet, PackError,
                               PolicyError)

BELOW = [FormulaError, ExpressionError, PackError, OpenSheet, NoFilling, PolicyError, ChangeError]


class Errors(unittest.TestCase):
    def test_the_base(self):
        self.assertTrue(issubclass(CountsError, ValueError))
        self.assertIsNot(CountsError, ValueError)

    def test_below_the_base(self):
        for error in BELOW:
            self.assertTrue(issubclass(error, CountsError), error)
            self.assertIsNot(error, CountsError)

    def test_beside_one_another(self):
        for first in BELOW:
            for second in BELOW:
                self.assertEqual(issubclass(first, second), first is second, (first, second))

    def test_names(self):
        self.assertEqual([error.__name__ for error in BELOW],
                         ["FormulaError", "ExpressionError", "PackError", "OpenSheet", "NoFilling", "PolicyError",
                          "ChangeError"])

    def test_line(self):
        for line in (1, 20, 100000):
            self.assertEqual(FormulaError(line).line, line)

    def test_at(self):
        for error in (ExpressionError, PackError):
            for at in (-1, 0, 17, 100000):
                self.assertEqual(error(at).at, at)

    def test_each_object_has_its_own_field(self):
        first, second = FormulaError(1), FormulaError(2)
        self.assertEqual((first.line, second.line), (1, 2))
        first, second = PackError(1), PackError(2)
        self.assertEqual((first.at, second.at), (1, 2))

    def test_raised_and_caught(self):
        for error in (FormulaError, ExpressionError, PackError):
            with self.assertRaises(CountsError):
                raise error(3)
        for error in (OpenSheet, NoFilling, PolicyError, ChangeError):
            with self.assertRaises(CountsError):
                raise error()
            with self.assertRaises(ValueError):
                raise error("why")
        with self.assertRaises(FormulaError) as caught:
            raise FormulaError(8)
        self.assertEqual(caught.exception.line, 8)


if __name__ == "__main__":
    unittest.main()
