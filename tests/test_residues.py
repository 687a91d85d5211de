"""Tests of [4.1], [4.3], [4.4] and [4.5]: units, parts and the rest of residues."""

import copy
import itertools
import random
import unittest

from common import Shallow
from countsworn.clauses import is_residue, residue_of, under
from countsworn.residues import lessened, parts_of, propagate, shown_of, units


def some_residue(source, many, count, sizes):
    """Some residue of at most so many variables and clauses."""
    rows = []
    for _ in range(count):
        chosen = sorted(source.sample(range(1, many + 1), min(many, source.choice(sizes))))
        rows.append(tuple(v * source.choice([1, -1]) for v in chosen))
    return residue_of(rows)


def slow_units(residue):
    return sorted([clause[0] for clause in residue if len(clause) == 1], key=lambda item: (abs(item), item > 0))


def slow_propagate(residue, literals):
    """What the document says, step by step."""
    for literal in literals:
        residue = under(residue, literal)
    found = []
    while () not in residue and slow_units(residue):
        found.append(slow_units(residue)[0])
        residue = under(residue, found[-1])
    return (((),) if () in residue else residue, found)


def slow_parts(residue):
    """The parts, by joining whatever has a variable in common again and again."""
    parts = []
    for clause in residue:
        joined = [part for part in parts if any({abs(x) for x in clause} & {abs(x) for x in row} for row in part)]
        parts = [part for part in parts if part not in joined] + [[clause] + [row for part in joined for row in part]]
    parts.sort(key=lambda part: min(abs(x) for row in part for x in row))
    return [residue_of(part) for part in parts]


def slow_lessened(residue):
    return tuple(clause for clause in residue
                 if not any(other != clause and set(other) <= set(clause) for other in residue))


class Units(unittest.TestCase):
    def test_units(self):
        for residue, found in [
                ((), ()), (((),), ()), (((1, 2), (-1, 3)), ()), (((5,),), (5,)), (((-5,),), (-5,)),
                (((1, 2), (-2,), (2, 3), (7,), (-10,), (10,), (10, 11)), (-2, 7, -10, 10)), (((), (3,)), (3,)),
                (((-1,), (1,)), (-1, 1)), (((-999,), (999,)), (-999, 999))]:
            residue = residue_of(residue)
            self.assertEqual(units(residue), found)
            self.assertIsInstance(units(residue), tuple)

    def test_some_residues(self):
        source = random.Random(41)
        for _ in range(300):
            residue = some_residue(source, 12, source.randint(0, 12), [0, 1, 1, 1, 2, 3][source.randint(0, 1):])
            self.assertEqual(units(residue), tuple(slow_units(residue)))


class Propagate(unittest.TestCase):
    def check(self, clauses, literals, rest, found):
        answer = propagate(residue_of(clauses), literals)
        self.assertEqual(answer, (residue_of(rest), found))
        self.assertIsInstance(answer, tuple)
        self.assertIsInstance(answer[0], tuple)
        self.assertIsInstance(answer[1], list)

    def test_nothing_to_do(self):
        self.check((), [], (), [])
        self.check(((1, 2), (-1, 3)), [], ((1, 2), (-1, 3)), [])

    def test_literals_alone(self):
        self.check(((1, 2, 3), (-1, 3, 4)), [1], ((3, 4),), [])
        self.check(((1, 2, 3), (-1, 3, 4)), [-1], ((2, 3),), [])
        self.check(((1, 2, 3), (-1, 3, 4)), [4, -2], ((1, 3),), [])

    def test_units_alone(self):
        self.check(((1,),), [], (), [1])
        self.check(((-1,), (1, 2, 3)), [], ((2, 3),), [-1])
        self.check(((-1, 2), (1,), (-2, 3), (-3, 4, 5)), [], ((4, 5),), [1, 2, 3])

    def test_found_has_the_units_alone(self):
        self.check(((-1, 2), (-2, 3)), [1], (), [2, 3])
        self.check(((1,), (2, 3)), [1], ((2, 3),), [])
        self.check(((1,), (2, 3)), [-2], (), [1, 3])

    def test_the_least_unit_comes_first(self):
        self.check(((3, -5), (4,), (5,)), [], (), [4, 5, 3])
        self.check(((1, -9), (2, -9), (-3, 4), (9,), (10,)), [], ((-3, 4),), [9, 1, 2, 10])
        self.check(((1, -9), (-1, 20), (8, -9), (9,), (15,)), [], (), [9, 1, 8, 15, 20])
        self.check(((-3,), (2, 3), (-7,)), [], (), [-3, 2, -7])
        self.check(((2, -3), (3,), (-7, 8), (7,)), [], (), [3, 2, 7, 8])

    def test_clauses_that_become_equal(self):
        self.check(((1, 2, 3), (2, 3), (2, 3, 4)), [-1, -4], ((2, 3),), [])
        self.check(((1, 5), (2, 5), (5, 6, 7)), [-1, -2], (), [5])

    def test_the_empty_clause_from_the_start(self):
        self.check(((),), [], ((),), [])
        self.check(((), (1,), (2, 3)), [], ((),), [])
        self.check(((), (1,), (2, 3)), [2, -1], ((),), [])

    def test_the_empty_clause_by_a_literal(self):
        self.check(((1,), (2,), (3, 4)), [-2], ((),), [])
        self.check(((1, 2), (3, 4), (5,)), [-1, -2], ((),), [])
        self.check(((1, 2), (3, 4), (5,)), [-2, -1, 3], ((),), [])

    def test_the_empty_clause_by_units(self):
        self.check(((-1,), (1,)), [], ((),), [-1])
        self.check(((1, 9), (-2,), (2,), (3,)), [], ((),), [-2])
        self.check(((-1, 2), (-1, -2), (1,), (5, 6)), [], ((),), [1, -2])
        self.check(((-1, 3), (-2, -3), (1, 7), (2,), (5,)), [1], ((),), [2, -3])
        self.check(((1, 2), (-1, 3), (-2, 3), (-3,), (4,)), [], ((),), [-3, -1, -2])

    def test_literals_that_the_residue_has_not(self):
        self.check(((1, 2),), [7], ((1, 2),), [])
        self.check(((1, 2),), [-7, 9, -999], ((1, 2),), [])
        self.check((), [1, -2], (), [])
        self.check(((1, 2), (4,)), [7, -1, 7], (), [2, 4])
        self.check(((),), [5], ((),), [])

    def test_a_variable_twice(self):
        self.check(((1, 2), (-1, 3, 4)), [1, -1], ((3, 4),), [])
        self.check(((1, 2, 5), (-1, 3, 4)), [-1, 1, -1], ((2, 5),), [])
        self.check(((1,), (2, 3)), [-1, 1], ((),), [])
        self.check(((1,), (2, 3)), [1, -1], ((2, 3),), [])

    def test_some_residues(self):
        source = random.Random(42)
        ends = {True: 0, False: 0}
        for _ in range(1500):
            many = source.randint(1, 12)
            sizes = source.choice([[1, 2, 3], [2, 3], [0, 1, 2, 2], [3]])
            residue = some_residue(source, many, source.randint(0, 20), sizes)
            literals = [source.randint(1, many + 1) * source.choice([1, -1]) for _ in range(source.randint(0, 4))]
            answer = propagate(residue, literals)
            self.assertEqual(answer, slow_propagate(residue, literals))
            self.assertIs(is_residue(answer[0]), True)
            ends[answer[0] == ((),)] += 1
        self.assertGreater(min(ends.values()), 300)

    def test_many_units(self):
        row = [(-v, v + 1) for v in range(1, 999)]
        residue = residue_of(row + [(1,)])
        with Shallow():
            self.assertEqual(propagate(residue, []), ((), list(range(1, 1000))))
            self.assertEqual(propagate(residue_of(row), [1]), ((), list(range(2, 1000))))
            self.assertEqual(propagate(residue, [-999]), (((),), list(range(1, 998)) + [-998]))

    def test_arguments_stay(self):
        residue = ((-1, 2), (1,), (2, 3))
        literals = [3, -7, 3]
        before = copy.deepcopy((residue, literals))
        propagate(residue, literals)
        self.assertEqual((residue, literals), before)


class Parts(unittest.TestCase):
    def check(self, clauses, parts):
        residue = residue_of(clauses)
        self.assertEqual(parts_of(residue), [residue_of(part) for part in parts])
        self.assertIsInstance(parts_of(residue), list)

    def test_one_part(self):
        self.check((), [])
        self.check(((3,),), [((3,),)])
        self.check(((1, 2), (2, 3)), [((1, 2), (2, 3))])
        self.check(((-1,), (1,)), [((-1,), (1,))])
        self.check(((1, -2), (1, 2)), [((1, -2), (1, 2))])

    def test_several_parts(self):
        self.check(((1, 2), (3, 4)), [((1, 2),), ((3, 4),)])
        self.check(((1,), (-2,), (2,), (3,)), [((1,),), ((-2,), (2,)), ((3,),)])

    def test_joined_by_a_row_of_clauses(self):
        self.check(((1, 2), (2, 3), (3, 4), (4, 5), (6, 7)), [((1, 2), (2, 3), (3, 4), (4, 5)), ((6, 7),)])
        self.check(((1, 9), (2, 8), (-8, 9)), [((1, 9), (2, 8), (-8, 9))])
        self.check(((1, 5), (2, 6), (3, 7), (5, 7), (6, 8)), [((1, 5), (3, 7), (5, 7)), ((2, 6), (6, 8))])

    def test_order_by_the_least_variable(self):
        self.check(((1, 9), (2, 3), (4, 9)), [((1, 9), (4, 9)), ((2, 3),)])
        self.check(((2, 10), (3, 4), (9, 10)), [((2, 10), (9, 10)), ((3, 4),)])
        self.check(((-2, 8), (3, 7), (-7, 10), (8, 9)), [((-2, 8), (8, 9)), ((3, 7), (-7, 10))])
        # The clause with the least variable of the first part stands behind clauses of the second one.
        self.check(((2, 3), (-10, 11), (10,)), [((2, 3),), ((-10, 11), (10,))])

    def test_some_residues(self):
        source = random.Random(43)
        counts = {}
        for _ in range(600):
            residue = some_residue(source, source.randint(3, 20), source.randint(0, 12), [1, 2, 2, 3])
            parts = parts_of(residue)
            self.assertEqual(parts, slow_parts(residue))
            self.assertTrue(all(is_residue(part) for part in parts))
            counts[len(parts)] = counts.get(len(parts), 0) + 1
        self.assertGreater(len(counts), 5)

    def test_long_rows(self):
        with Shallow():
            residue = residue_of([(v, v + 1) for v in range(1, 999)])
            self.assertEqual(parts_of(residue), [residue])
            residue = residue_of([(v, 1000 - v) for v in range(1, 500)] + [(v, 999 - v) for v in range(1, 499)])
            self.assertEqual(parts_of(residue), [residue])
            self.assertEqual(parts_of(tuple((v,) for v in range(1, 1000))), [((v,),) for v in range(1, 1000)])


class Lessened(unittest.TestCase):
    def check(self, clauses, rest):
        residue = residue_of(clauses)
        self.assertEqual(lessened(residue), residue_of(rest))
        self.assertIsInstance(lessened(residue), tuple)

    def test_nothing_to_leave_out(self):
        for residue in [(), ((),), ((1,),), ((1, 2), (2, 3)), ((-1, 2), (1, 2)), ((-1,), (1, 2)),
                        ((1, 2, 3), (1, 4), (3, 4))]:
            self.check(residue, residue)

    def test_within_one(self):
        self.check(((1,), (1, 2)), ((1,),))
        self.check(((1, 2), (2,)), ((2,),))
        self.check(((1, 2, 3), (1, 3)), ((1, 3),))
        self.check(((1, 2), (1, 2, 3)), ((1, 2),))
        self.check(((1, 2, 3), (2, 3)), ((2, 3),))

    def test_within_several(self):
        self.check(((-1, 2, 4), (1, 2), (1, 2, 3), (2, 4), (2, 4, 5)), ((1, 2), (2, 4)))
        self.check(((1, 5), (2, -5), (2, 5), (5,), (5, 6)), ((2, -5), (5,)))

    def test_one_within_the_other_within_a_third(self):
        self.check(((1,), (1, 2), (1, 2, 3)), ((1,),))
        self.check(((1, 2, 3), (2, 3), (3,)), ((3,),))

    def test_other_signs(self):
        self.check(((-1, 2), (-1, 2, 3), (1, 2, 3)), ((-1, 2), (1, 2, 3)))
        self.check(((1, -2), (1, 2, 3)), ((1, -2), (1, 2, 3)))
        self.check(((-1,), (1,), (1, 2)), ((-1,), (1,)))

    def test_the_empty_clause_among_others(self):
        self.check(((), (1,), (1, 2), (-2,)), ((),))

    def test_some_residues(self):
        source = random.Random(44)
        changed = 0
        for _ in range(800):
            sizes = source.choice([[1, 2, 3, 4], [2, 3, 4]])
            residue = some_residue(source, source.randint(2, 8), source.randint(0, 15), sizes)
            self.assertEqual(lessened(residue), slow_lessened(residue))
            changed += lessened(residue) != residue
        self.assertGreater(changed, 300)

    def test_many_clauses(self):
        source = random.Random(45)
        with Shallow():
            wide = tuple(range(1, 1000))
            self.check((wide[:500], wide), (wide[:500],))
            self.check(residue_of([wide, wide[500:]]), (wide[500:],))
        residue = some_residue(source, 300, 8000, [2, 3, 4])
        pairs = {clause for clause in residue if len(clause) == 2}
        threes = {clause for clause in residue if len(clause) == 3}

        def stays(clause):
            inner = [row for size in (2, 3) for row in itertools.combinations(clause, size) if len(row) < len(clause)]
            return not any(row in pairs or row in threes for row in inner)

        self.assertEqual(lessened(residue), tuple(clause for clause in residue if stays(clause)))


class ShownOf(unittest.TestCase):
    def test_shown_of(self):
        residue = ((-1, 3), (2, -5), (3, 4))
        for shown, hidden, found in [
                ((1, 2, 3, 4, 5), (), (1, 2, 3, 4, 5)), ((), (1, 2, 3, 4, 5), ()), ((3, 5), (1, 2, 4), (3, 5)),
                ((1, 2), (3, 4, 5, 6), (1, 2)), ((2, 4, 6, 9), (1, 3, 5, 7), (2, 4))]:
            self.assertEqual(shown_of((shown, hidden, residue), residue), found)
            self.assertIsInstance(shown_of((shown, hidden, residue), residue), tuple)

    def test_of_another_residue(self):
        formula = ((1, 2, 30), (3, 4), ((1, 2), (3, 4), (-4, 30)))
        self.assertEqual(shown_of(formula, ((3, 4),)), ())
        self.assertEqual(shown_of(formula, ((-4, 30), (4, -30))), (30,))
        self.assertEqual(shown_of(formula, ((1, 30), (2, 3))), (1, 2, 30))
        self.assertEqual(shown_of(formula, ()), ())
        self.assertEqual(shown_of(formula, ((),)), ())


if __name__ == "__main__":
    unittest.main()
