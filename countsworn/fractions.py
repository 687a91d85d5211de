"""Fractions: pairs (n, d) of integers with d >= 1 and no common divisor above 1."""

from math import gcd

from countsworn.numerals import is_whole, read_number, show_number


def fraction(n, d):
    """The fraction n over d, for any d other than 0."""
    common = gcd(n, d)
    if d < 0:
        common = -common
    return (n // common, d // common)


def is_fraction(value):
    """Whether any value is a fraction."""
    if not isinstance(value, tuple) or len(value) != 2:
        return False
    n, d = value
    return is_whole(n) and is_whole(d) and d >= 1 and gcd(n, d) == 1


def plus(a, b):
    """The sum of two fractions."""
    return fraction(a[0] * b[1] + b[0] * a[1], a[1] * b[1])


def minus(a, b):
    """The first fraction less the second one."""
    return fraction(a[0] * b[1] - b[0] * a[1], a[1] * b[1])


def times(a, b):
    """The product of two fractions."""
    return fraction(a[0] * b[0], a[1] * b[1])


def over(a, b):
    """The first fraction divided by the second one, which is not 0."""
    return fraction(a[0] * b[1], a[1] * b[0])


def less(a, b):
    """Whether the first fraction is below the second one."""
    return a[0] * b[1] < b[0] * a[1]


def greatest(a, b):
    """The greater one of two fractions."""
    if less(a, b):
        return b
    return a


def total(row):
    """The sum of a list of fractions."""
    found = (0, 1)
    for a in row:
        found = plus(found, a)
    return found


def product(row):
    """The product of a list of fractions."""
    found = (1, 1)
    for a in row:
        found = times(found, a)
    return found


def show_fraction(a):
    """The text of a fraction: n if d is 1, otherwise n/d."""
    if a[1] == 1:
        return show_number(a[0])
    return show_number(a[0]) + "/" + show_number(a[1])


def read_fraction(text):
    """The fraction whose text this is, or None."""
    above, slash, below = text.partition("/")
    n = read_number(above.removeprefix("-"))
    d = read_number(below) if slash else 1
    if n is None or d is None or d == 0:
        return None
    found = fraction(-n if above.startswith("-") else n, d)
    # Whatever is not written in lowest terms (-0, 2/4, 3/1) is shown in another way.
    if show_fraction(found) != text:
        return None
    return found


def rounded(a, places):
    """The text of a fraction, not below 0, with so many digits behind the point, halves upward."""
    scale = 1
    for _ in range(places):
        scale = scale * 10
    digits = show_number((2 * a[0] * scale + a[1]) // (2 * a[1])).zfill(places + 1)
    if places == 0:
        return digits
    return digits[:-places] + "." + digits[-places:]
