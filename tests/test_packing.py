"""Tests of [10.1]: plain values as bytes."""

import copy
import fractions
import random
import unittest

from common import Shallow, every_policy, path_formula, some_formula, wild_sheet
from countsworn.checker import check
from countsworn.compiler import compile_sheet
from countsworn.errors import CountsError, PackError
from countsworn.packing import check_bytes, pack, unpack
from countsworn.policy import USUAL


def nested(depth, inner=None):
    """So many tuples, one in the other, the last one empty or around a value."""
    value = () if inner is None else (inner,)
    for _ in range(depth - 1):
        value = (value,)
    return value


def some_value(source, depth):
    kind = source.randint(0, 7)
    if kind < 3:
        return (None, False, True)[kind]
    if kind == 3:
        return source.choice([0, 1, 127, 128, 129, 16383, 16384, source.randrange(10 ** source.randint(1, 40))])
    if kind == 4:
        return -source.choice([1, 127, 128, 129, 130, 16384, 16385, source.randrange(1, 10 ** source.randint(1, 40))])
    if kind == 5:
        return "".join(source.choice("abcmxyz") for _ in range(source.choice([0, 1, 2, 9, 127, 128, 300])))
    return tuple(some_value(source, depth - 1) for _ in range(source.randint(0, 4))) if depth > 0 else ()


class Same:
    """Whether two values are the same, True and 1 told apart."""

    def same(self, first, second):
        self.assertEqual(first, second)
        self.assertEqual(repr(first), repr(second))


class Pack(unittest.TestCase, Same):
    def both_ways(self, value, data):
        self.assertEqual(pack(value), data)
        self.assertIsInstance(pack(value), list)
        self.assertTrue(all(type(byte) is int for byte in pack(value)))
        before = list(data)
        self.same(unpack(data), value)
        self.assertEqual(data, before)

    def test_none_and_truth(self):
        self.both_ways(None, [0])
        self.both_ways(False, [1])
        self.both_ways(True, [2])

    def test_numbers(self):
        for n, size in ((0, [0]), (1, [1]), (127, [127]), (128, [128, 1]), (129, [129, 1]), (255, [255, 1]),
                        (256, [128, 2]), (16383, [255, 127]), (16384, [128, 128, 1]), (16385, [129, 128, 1]),
                        (2 ** 21 - 1, [255, 255, 127]), (2 ** 21, [128, 128, 128, 1]), (5 * 128 ** 30, [128] * 30 + [5]),
                        (128 ** 200, [128] * 200 + [1]), (128 ** 200 - 1, [255] * 199 + [127])):
            self.both_ways(n, [3] + size)
            self.both_ways(-1 - n, [4] + size)
        self.both_ways(-1, [4, 0])
        self.both_ways(-2, [4, 1])
        self.both_ways(-128, [4, 127])
        self.both_ways(-129, [4, 128, 1])
        self.both_ways(-999, [4, 230, 7])

    def test_texts(self):
        self.both_ways("", [5, 0])
        self.both_ways("a", [5, 1, 97])
        self.both_ways("yes", [5, 3, 121, 101, 115])
        self.both_ways("z" * 127, [5, 127] + [122] * 127)
        self.both_ways("m" * 128, [5, 128, 1] + [109] * 128)
        self.both_ways("abcdefghijklmnopqrstuvwxyz", [5, 26] + list(range(97, 123)))

    def test_tuples(self):
        self.both_ways((), [6, 0])
        self.both_ways((None,), [6, 1, 0])
        self.both_ways((1, -1, "no"), [6, 3, 3, 1, 4, 0, 5, 2, 110, 111])
        self.both_ways(((), ((), True), 5), [6, 3, 6, 0, 6, 2, 6, 0, 2, 3, 5])
        self.both_ways((False,) * 128, [6, 128, 1] + [1] * 128)
        self.both_ways((None,) * 16384, [6, 128, 128, 1] + [0] * 16384)
        self.both_ways((("a", ("b", ())), ("c",)), [6, 2, 6, 2, 5, 1, 97, 6, 2, 5, 1, 98, 6, 0, 6, 1, 5, 1, 99])

    def test_nesting(self):
        with Shallow():
            self.both_ways(nested(59), [6, 1] * 58 + [6, 0])
            self.both_ways(nested(60), [6, 1] * 59 + [6, 0])
            self.both_ways(nested(60, 7), [6, 1] * 60 + [3, 7])
            self.both_ways((nested(59), nested(59)), [6, 2] + ([6, 1] * 58 + [6, 0]) * 2)

    def refused(self, value):
        with self.assertRaises(PackError) as caught:
            pack(value)
        self.assertEqual(caught.exception.at, -1)
        self.assertIsInstance(caught.exception, CountsError)

    def test_too_deep(self):
        with Shallow():
            for depth in (61, 62, 100, 5000):
                self.refused(nested(depth))
                self.refused(nested(depth, 1))
                self.refused((nested(depth - 1), 5))
                self.refused((5, nested(depth - 1)))

    def test_other_forms(self):
        for value in ([], [1], {}, {1: 2}, {1}, frozenset(), 1.0, 0.5, -1.5, float("inf"), 2j, b"", b"abc", bytearray(),
                      fractions.Fraction(1, 2), fractions.Fraction(3), range(3), object(), int, len, "A", "aB", "a b",
                      " ", "a1", "0", "a-b", "\n", "a\n", "\u00e4", "\u00df", "a\u0301", "{", "`", "_", "\u212a"):
            self.refused(value)
            self.refused((value,))
            self.refused((1, (None, value), "a"))

    def test_arguments_stay(self):
        value = (1, ("a", (True, None)), -5)
        before = copy.deepcopy(value)
        pack(value)
        self.same(value, before)


class Unpack(unittest.TestCase, Same):
    def refused(self, data, at):
        before = list(data)
        with self.assertRaises(PackError) as caught:
            unpack(data)
        self.assertEqual(caught.exception.at, at, data)
        self.assertEqual(data, before)

    def test_unknown_kinds(self):
        for kind in (7, 8, 9, 10, 48, 97, 127, 128, 129, 200, 255):
            self.refused([kind], 0)
            self.refused([kind, 0, 0], 0)
            self.refused([6, 1, kind], 2)
            self.refused([6, 3, 0, 5, 1, 97, kind], 6)
            self.refused([6, 2, 3, 128, 1, kind], 5)

    def test_needless_digits(self):
        for kind in (3, 4, 5, 6):
            self.refused([kind, 128, 0], 2)
            self.refused([kind, 129, 0], 2)
            self.refused([kind, 255, 128, 0], 3)
            self.refused([kind, 128, 128, 128, 0, 0], 4)
            self.refused([6, 1, kind, 133, 0], 4)
            self.refused([6, 133, 0, 3, 5], 2)

    def test_codes_that_are_no_letters(self):
        for code in (0, 1, 31, 32, 48, 64, 65, 90, 95, 96, 123, 127, 128, 255):
            self.refused([5, 1, code], 2)
            self.refused([5, 3, 97, 98, code], 4)
            self.refused([5, 3, 97, code, code], 3)
            self.refused([6, 2, 1, 5, 2, code, 97], 5)

    def test_items_that_are_no_bytes(self):
        for item in (None, True, False, -1, 256, 1000, 10 ** 30, "a", "", b"a", (), [], [1], 1.0, 0.0, 97.0,
                     fractions.Fraction(1)):
            self.refused([item], 0)
            self.refused([item, 0], 0)
            self.refused([3, item], 1)
            self.refused([4, 128, item], 2)
            self.refused([5, item], 1)
            self.refused([5, 2, 97, item], 3)
            self.refused([6, item], 1)
            self.refused([6, 2, 0, item], 3)
            self.refused([0, item], 1)

    def test_bytes_behind_the_end(self):
        for value in (None, False, True, 0, 300, -1, -300, "", "abc", (), (1, 2), ((), "a", (None,))):
            data = pack(value)
            for more in ([0], [1, 2, 3], [7], [255, 255], [None], [6, 0]):
                self.refused(data + more, len(data))

    def test_data_that_ends_too_early(self):
        self.refused([], 0)
        for value in (0, 128, 16384, -1, -129, "", "a", "abcdef", "k" * 128, (), (1,), (None, True, "xyz", -500),
                      ((), ((), (5, "a")), 700), nested(60), nested(60, "zz"), (0,) * 130):
            data = pack(value)
            for at in range(len(data)):
                self.refused(data[:at], at)

    def test_sizes_far_beyond_what_is_there(self):
        for kind, item in ((5, 97), (6, 0)):
            for size in ([255] * 8 + [1], [128] * 300 + [1]):
                self.refused([kind] + size, 1 + len(size))
                self.refused([kind] + size + [item] * 5, 6 + len(size))
                self.refused([kind] + size + [item] * 5 + [200], 6 + len(size))

    def test_too_deep(self):
        with Shallow():
            self.refused([6, 1] * 60 + [6, 0], 120)
            self.refused([6, 1] * 60 + [6], 120)
            self.refused([6, 1] * 5000, 120)
            self.refused([6, 2] + [6, 1] * 59 + [3, 1] + [6, 1] * 60, 240)
            self.refused([6, 1] * 60, 120)

    def test_any_bytes(self):
        source = random.Random(1001)
        taken = 0
        for turn in range(30000):
            data = [source.choice([0, 1, 2, 3, 4, 5, 6, 6, 7, 97, 122, 128, 255]) for _ in range(source.randint(0, 7))]
            try:
                value = unpack(data)
            except PackError as error:
                self.assertTrue(0 <= error.at <= len(data))
            else:
                taken += 1
                self.assertEqual(pack(value), data)
        self.assertGreater(taken, 1000)

    def test_bytes_changed(self):
        source = random.Random(1002)
        for turn in range(3000):
            value = some_value(source, 4)
            data = pack(value)
            self.same(unpack(data), value)
            at = source.randrange(len(data))
            data[at] = source.randint(0, 255)
            try:
                found = unpack(data)
            except PackError as error:
                self.assertTrue(at <= error.at <= len(data))
                # Whatever stands behind the first byte that cannot stand there does not matter.
                self.refused(data[:error.at + 1] + [source.randint(0, 255)] * (error.at < len(data)), error.at)
            else:
                self.assertEqual(pack(found), data)

    def test_many_values(self):
        source = random.Random(1003)
        for turn in range(2000):
            value = some_value(source, 6)
            self.same(unpack(pack(value)), value)


class Sheets(unittest.TestCase):
    def test_sheets(self):
        source = random.Random(1011)
        for turn in range(10):
            formula = some_formula(source)
            for policy in every_policy():
                for fuel in (1, 100000):
                    sheet = compile_sheet(formula, policy, fuel=fuel)
                    data = pack(sheet)
                    self.assertEqual(unpack(data), sheet)
                    self.assertIs(check_bytes(formula, data), True)
        for turn in range(200):
            formula = some_formula(source)
            sheet = wild_sheet(source, formula, 0.1)
            self.assertIs(check_bytes(formula, pack(sheet)), True)

    def test_a_changed_node(self):
        formula = ((1, 2), (), ((1, 2),))
        sheet = compile_sheet(formula, USUAL)
        for number, (residue, _) in enumerate(sheet[1]):
            for rule in (("no",), ("yes", 1), ("unit", 7, 0), None, ("less", number)):
                nodes = sheet[1][:number] + ((residue, rule),) + sheet[1][number + 1:]
                self.assertIs(check_bytes(formula, pack((formula, nodes))), False)

    def test_bytes_of_other_values(self):
        formula = ((1, 2), (), ((1, 2),))
        for value in (None, True, 0, -7, "yes", (), (formula,), (formula, ()), formula, (formula, ((), ()))):
            self.assertIs(check_bytes(formula, pack(value)), False)
        other = ((1, 2), (), ())
        self.assertIs(check_bytes(formula, pack(compile_sheet(other, USUAL))), False)
        self.assertIs(check_bytes(other, pack(compile_sheet(other, USUAL))), True)

    def test_no_bytes_of_a_value(self):
        formula = ((1,), (), ())
        data = pack(compile_sheet(formula, USUAL))
        for at in range(len(data)):
            with self.assertRaises(PackError) as caught:
                check_bytes(formula, data[:at])
            self.assertEqual(caught.exception.at, at)
        with self.assertRaises(PackError) as caught:
            check_bytes(formula, data + [0])
        self.assertEqual(caught.exception.at, len(data))

    def test_any_changed_byte(self):
        # Whatever comes of it is refused as bytes, or looked at as any value is.
        formula = ((1, 2, 3), (4,), ((-1, 4), (1, 2), (3, -4)))
        data = pack(compile_sheet(formula, USUAL))
        for at in range(len(data)):
            for byte in (0, 2, 3, 4, 5, 6, 97, 128, 200):
                changed = data[:at] + [byte] + data[at + 1:]
                try:
                    value = unpack(changed)
                except PackError:
                    with self.assertRaises(PackError):
                        check_bytes(formula, changed)
                else:
                    self.assertIs(check_bytes(formula, changed), check(formula, value))

    def test_a_large_sheet(self):
        formula = path_formula(400)
        sheet = compile_sheet(formula, USUAL)
        with Shallow():
            data = pack(sheet)
            self.assertGreater(len(data), 100000)
            self.assertIs(check_bytes(formula, data), True)


if __name__ == "__main__":
    unittest.main()
