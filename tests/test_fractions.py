"""Tests of [1.1]: fractions."""

import unittest
from fractions import Fraction
from itertools import product as pairs_of

from countsworn.fractions import (fraction, greatest, less, minus, over, plus, product, read_fraction, rounded,
                                  show_fraction, times, total)

GREAT = 10 ** 40
ROW = [(0, 1), (1, 1), (-1, 1), (1, 2), (-1, 2), (2, 3), (-7, 4), (5, 6), (10, 9), (-10, 9), (GREAT + 1, 3),
       (-3, GREAT + 1), (GREAT + 1, GREAT)]


def pair(value):
    """A fraction of the standard library as a pair."""
    return (value.numerator, value.denominator)


def digits_of(n):
    """Digits of a number, by a way that has no limit."""
    found = ""
    while n:
        n, low = divmod(n, 10 ** 500)
        found = str(low).zfill(500) + found
    return found.lstrip("0") or "0"


class Making(unittest.TestCase):
    def test_signs(self):
        self.assertEqual(fraction(1, 2), (1, 2))
        self.assertEqual(fraction(-1, 2), (-1, 2))
        self.assertEqual(fraction(1, -2), (-1, 2))
        self.assertEqual(fraction(-1, -2), (1, 2))

    def test_common_divisors(self):
        self.assertEqual(fraction(6, 4), (3, 2))
        self.assertEqual(fraction(-6, 4), (-3, 2))
        self.assertEqual(fraction(6, -4), (-3, 2))
        self.assertEqual(fraction(-6, -3), (2, 1))
        self.assertEqual(fraction(7, 7), (1, 1))
        self.assertEqual(fraction(7 * GREAT, -21 * GREAT), (-1, 3))

    def test_nothing(self):
        self.assertEqual(fraction(0, 1), (0, 1))
        self.assertEqual(fraction(0, 9), (0, 1))
        self.assertEqual(fraction(0, -9), (0, 1))
        self.assertEqual(fraction(0, GREAT), (0, 1))

    def test_all_small_ones(self):
        for n in range(-20, 21):
            for d in range(-20, 21):
                if d != 0:
                    self.assertEqual(fraction(n, d), pair(Fraction(n, d)), (n, d))

    def test_a_pair_of_integers(self):
        found = fraction(4, 2)
        self.assertIsInstance(found, tuple)
        self.assertEqual([part.__class__ for part in found], [int, int])


class Reckoning(unittest.TestCase):
    def test_examples(self):
        self.assertEqual(plus((1, 2), (1, 3)), (5, 6))
        self.assertEqual(plus((1, 2), (1, 2)), (1, 1))
        self.assertEqual(plus((1, 6), (1, 3)), (1, 2))
        self.assertEqual(plus((1, 2), (-1, 2)), (0, 1))
        self.assertEqual(minus((1, 2), (1, 3)), (1, 6))
        self.assertEqual(minus((1, 3), (1, 2)), (-1, 6))
        self.assertEqual(minus((2, 3), (2, 3)), (0, 1))
        self.assertEqual(times((2, 3), (3, 4)), (1, 2))
        self.assertEqual(times((-2, 3), (3, 2)), (-1, 1))
        self.assertEqual(times((0, 1), (3, 2)), (0, 1))
        self.assertEqual(over((1, 2), (1, 3)), (3, 2))
        self.assertEqual(over((1, 2), (-1, 3)), (-3, 2))
        self.assertEqual(over((-1, 2), (-1, 2)), (1, 1))
        self.assertEqual(over((0, 1), (-5, 2)), (0, 1))

    def test_all_pairs(self):
        for a, b in pairs_of(ROW, ROW):
            first, second = Fraction(*a), Fraction(*b)
            self.assertEqual(plus(a, b), pair(first + second))
            self.assertEqual(minus(a, b), pair(first - second))
            self.assertEqual(times(a, b), pair(first * second))
            if b != (0, 1):
                self.assertEqual(over(a, b), pair(first / second))

    def test_order(self):
        self.assertIs(less((1, 3), (1, 2)), True)
        self.assertIs(less((1, 2), (1, 3)), False)
        self.assertIs(less((1, 2), (1, 2)), False)
        self.assertIs(less((-1, 2), (-1, 3)), True)
        self.assertIs(less((-1, 2), (0, 1)), True)
        self.assertIs(less((0, 1), (-1, 2)), False)
        self.assertEqual(greatest((1, 3), (1, 2)), (1, 2))
        self.assertEqual(greatest((1, 2), (1, 3)), (1, 2))
        self.assertEqual(greatest((-1, 2), (-1, 3)), (-1, 3))
        self.assertEqual(greatest((2, 7), (2, 7)), (2, 7))
        for a, b in pairs_of(ROW, ROW):
            self.assertIs(less(a, b), Fraction(*a) < Fraction(*b))
            self.assertEqual(greatest(a, b), pair(max(Fraction(*a), Fraction(*b))))

    def test_total(self):
        self.assertEqual(total([]), (0, 1))
        self.assertEqual(total([(3, 4)]), (3, 4))
        self.assertEqual(total([(1, 2), (1, 3), (1, 6)]), (1, 1))
        self.assertEqual(total([(1, 2), (-1, 2)]), (0, 1))
        self.assertEqual(total([(1, k * (k + 1)) for k in range(1, 100)]), (99, 100))
        self.assertEqual(total(ROW), pair(sum(Fraction(*a) for a in ROW)))

    def test_product(self):
        self.assertEqual(product([]), (1, 1))
        self.assertEqual(product([(3, 4)]), (3, 4))
        self.assertEqual(product([(1, 2), (2, 3), (3, 4)]), (1, 4))
        self.assertEqual(product([(-1, 2), (-2, 3)]), (1, 3))
        self.assertEqual(product([(5, 2), (0, 1), (7, 3)]), (0, 1))
        self.assertEqual(product([(k, k + 1) for k in range(1, 100)]), (1, 100))

    def test_arguments_stay(self):
        row = list(ROW)
        total(row)
        product(row)
        self.assertEqual(row, ROW)


class Texts(unittest.TestCase):
    def test_shown(self):
        for a, text in [((0, 1), "0"), ((5, 1), "5"), ((-5, 1), "-5"), ((1, 2), "1/2"), ((-12, 7), "-12/7"),
                        ((100, 1), "100"), ((10, 101), "10/101"), ((GREAT, 1), "1" + "0" * 40),
                        ((-1, GREAT), "-1/1" + "0" * 40)]:
            self.assertEqual(show_fraction(a), text)
            self.assertEqual(read_fraction(text), a)

    def test_there_and_back(self):
        for n in range(-30, 31):
            for d in range(1, 31):
                a = fraction(n, d)
                self.assertEqual(read_fraction(show_fraction(a)), a)

    def test_read_is_a_pair_of_integers(self):
        found = read_fraction("7")
        self.assertIsInstance(found, tuple)
        self.assertEqual([part.__class__ for part in found], [int, int])

    def test_signs_up_to_the_limit(self):
        for many in (59, 60, 61, 119, 120, 121, 1000, 1999):
            n, d = 10 ** many - 1, 10 ** many
            top, low = "9" * many, "1" + "0" * many
            self.assertEqual(show_fraction((n, d)), top + "/" + low)
            self.assertEqual(read_fraction("-" + top + "/" + low), (-n, d))
        self.assertEqual(show_fraction((-(10 ** 3998), 1)), "-1" + "0" * 3998)
        self.assertEqual(read_fraction("-1" + "0" * 3998), (-(10 ** 3998), 1))
        self.assertEqual(read_fraction("9" * 4000), (10 ** 4000 - 1, 1))

    def none(self, texts):
        for text in texts:
            self.assertIsNone(read_fraction(text), repr(text))

    def test_wrong_signs(self):
        self.none(["+1", "+1/2", "1/-2", "-1/-2", "1/+2", "--1", "-", "-/2", "1-", "1/2-", "- 1", "+", "+0", "-+1"])

    def test_nothing_below_nothing(self):
        self.none(["-0", "-0/1", "-0/2"])

    def test_leading_zeros(self):
        self.none(["00", "01", "-01", "007", "01/2", "1/02", "-01/2", "0/02", "000/1"])

    def test_wrong_denominators(self):
        self.none(["1/0", "0/0", "-1/0", "1/1", "0/1", "5/1", "-5/1", "1/00"])

    def test_common_divisors(self):
        self.none(["2/4", "-2/4", "6/3", "0/2", "0/7", "10/10", "15/35"])

    def test_empty_parts(self):
        self.none(["", "/", "1/", "/2", "-/", "1//2", "1/2/", "/1/2", "1/2/3"])

    def test_blanks(self):
        self.none([" ", " 1", "1 ", "1 /2", "1/ 2", "1 2", "1/2 ", " 1/2", "1\n", "\t1", "1/2\n", "1 000"])

    def test_other_signs(self):
        self.none(["x", "1x", "a/b", "1.5", "1e3", "0x1", "1_000", "1,5", "1/2x", "1:2", "one", "\x001"])

    def test_digits_that_are_not_0_to_9(self):
        self.none(["\u0661", "\u00b2", "1/\u0662", "\u0661/2", "1\u00b2", "\uff11", "\u00bd", "1/\u2082", "1\u20442"])


class Rounding(unittest.TestCase):
    def every(self, rows):
        for a, places, text in rows:
            self.assertEqual(rounded(a, places), text, (a, places))

    def test_no_places(self):
        self.every([((0, 1), 0, "0"), ((7, 1), 0, "7"), ((1, 3), 0, "0"), ((2, 3), 0, "1"), ((120, 1), 0, "120"),
                    ((1000, 7), 0, "143")])

    def test_halves_go_upward(self):
        self.every([((1, 2), 0, "1"), ((3, 2), 0, "2"), ((5, 2), 0, "3"), ((1, 4), 1, "0.3"), ((3, 20), 1, "0.2"),
                    ((1, 8), 2, "0.13"), ((3, 8), 2, "0.38"), ((5, 1000), 2, "0.01"), ((1, 200000), 5, "0.00001")])

    def test_close_to_halves(self):
        self.every([((49, 100), 0, "0"), ((51, 100), 0, "1"), ((GREAT - 1, 2 * GREAT), 0, "0"),
                    ((GREAT + 1, 2 * GREAT), 0, "1"), ((249, 1000), 1, "0.2"), ((251, 1000), 1, "0.3")])

    def test_zeros_ahead_and_behind(self):
        self.every([((0, 1), 1, "0.0"), ((0, 1), 4, "0.0000"), ((1, 1), 3, "1.000"), ((1, 2), 4, "0.5000"),
                    ((1, 100), 4, "0.0100"), ((1, 1000), 2, "0.00"), ((1, 100000), 4, "0.0000"),
                    ((1, 30), 2, "0.03"), ((100, 1), 2, "100.00"), ((1001, 100), 2, "10.01")])

    def test_carried(self):
        self.every([((999, 1000), 2, "1.00"), ((99999, 100000), 4, "1.0000"), ((1999, 200), 1, "10.0"),
                    ((199, 20), 0, "10")])

    def test_thirds(self):
        self.every([((1, 3), 4, "0.3333"), ((2, 3), 4, "0.6667"), ((22, 7), 10, "3.1428571429"),
                    ((1, 3), 200, "0." + "3" * 200), ((2, 3), 61, "0." + "6" * 60 + "7"),
                    ((GREAT, 3), 2, "3" * 40 + ".33")])

    def test_against_a_table(self):
        for n in range(0, 60):
            for d in range(1, 25):
                for places in range(0, 4):
                    a = fraction(n, d)
                    whole = (Fraction(n, d) * 10 ** places + Fraction(1, 2)).__floor__()
                    front, back = divmod(whole, 10 ** places)
                    text = str(front) + ("." + str(back).zfill(places) if places else "")
                    self.assertEqual(rounded(a, places), text, (a, places))

    def test_many_places(self):
        self.assertEqual(rounded((1, 7), 3000), "0." + digits_of((10 ** 3001 // 7 + 5) // 10))


if __name__ == "__main__":
    unittest.main()
