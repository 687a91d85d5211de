"""Tests of [4.2]: clauses that follow by units, and chains of them."""

import itertools
import random
import unittest

from countsworn.chains import follows, refutes
from countsworn.clauses import clause_of, keeps, residue_of, under
from countsworn.residues import propagate
from countsworn.search import search

# All clauses over two and over three variables: nothing keeps them, and no unit tells it.
TWO = residue_of([(a, b) for a in (-1, 1) for b in (-2, 2)])
THREE = residue_of([(a, b, c) for a in (-1, 1) for b in (-2, 2) for c in (-3, 3)])
CHAIN = ((-1, -2), (-1,), (1, -2), (1,), ())


def some_residue(source, many, count, sizes):
    """Some residue of at most so many variables and clauses."""
    rows = []
    for _ in range(count):
        chosen = sorted(source.sample(range(1, many + 1), min(many, source.choice(sizes))))
        rows.append(tuple(v * source.choice([1, -1]) for v in chosen))
    return residue_of(rows)


def slow_follows(residue, clause):
    """What the document says, step by step."""
    for literal in clause:
        residue = under(residue, -literal)
    while () not in residue:
        found = [row[0] for row in residue if len(row) == 1]
        if not found:
            return False
        residue = under(residue, min(found, key=lambda item: (abs(item), item > 0)))
    return True


def slow_refutes(residue, rows):
    """What the document says, row by row."""
    ahead = list(residue)
    for row in rows:
        if not slow_follows(residue_of(ahead), row):
            return False
        ahead.append(row)
    return len(rows) > 0 and rows[-1] == ()


class Follows(unittest.TestCase):
    def check(self, clauses, clause, answer):
        self.assertIs(follows(residue_of(clauses), clause), answer, (clauses, clause))

    def test_what_follows(self):
        self.check([(1, 2)], (1, 2), True)
        self.check([(1, 2)], (1, 2, 3), True)
        self.check([(1, 2), (-2, 3)], (1, 3), True)
        self.check([(1,)], (1,), True)
        self.check([(1,)], (1, -5), True)
        self.check([(1, 2), (1, -2)], (1,), True)
        self.check([(-1, 2), (-2, 3), (-3, 4)], (-1, 4), True)
        self.check([(-1, 2), (-2, 3), (-3, 4)], (-1, 2, -7), True)
        self.check([(5,), (-5, 6)], (6,), True)

    def test_what_does_not_follow(self):
        self.check([], (1,), False)
        self.check([], (1, -2), False)
        self.check([(1, 2)], (1,), False)
        self.check([(1, 2)], (1, 3), False)
        self.check([(1, 2)], (-1, -2), False)
        self.check([(-1, 2), (-2, 3)], (1, 3), False)
        self.check([(-1, 2), (-2, 3)], (-3, 1), False)
        self.check([(5,), (-5, 6)], (-6,), False)
        self.check([(5,), (-5, 6)], (7,), False)

    def test_by_units_alone(self):
        # Every filling that keeps the residue keeps the clause, but units do not tell it.
        self.check(THREE, (1,), False)
        self.check(THREE, (1, 2), True)
        self.check([(a, b, 3) for a in (-1, 1) for b in (-2, 2)], (3,), False)
        self.check([(a, b, 3) for a in (-1, 1) for b in (-2, 2)], (1, 3), True)

    def test_the_empty_clause(self):
        self.check([], (), False)
        self.check([(1,)], (), False)
        self.check(TWO, (), False)
        self.check([(1,), (-1,)], (), True)
        self.check([(1,), (-1, 2), (-2,)], (), True)
        self.check([()], (), True)
        self.check([(), (1, 2)], (), True)

    def test_from_the_empty_clause(self):
        self.check([()], (4,), True)
        self.check([(), (1, 2)], (-1, 3), True)

    def test_from_units_that_lead_nowhere(self):
        self.check([(1,), (-1,)], (7,), True)
        self.check([(1,), (-1, 2), (-2,)], (1,), True)

    def test_some(self):
        source = random.Random(46)
        counts = {True: 0, False: 0}
        for _ in range(2000):
            many = source.randint(1, 8)
            residue = some_residue(source, many, source.randint(0, 16), [1, 2, 2, 3, 3, 3])
            chosen = source.sample(range(1, many + 2), source.randint(0, min(3, many)))
            clause = clause_of([v * source.choice([1, -1]) for v in chosen])
            answer = follows(residue, clause)
            self.assertIs(answer, slow_follows(residue, clause))
            self.assertIs(answer, propagate(residue, [-literal for literal in clause])[0] == ((),))
            counts[answer] += 1
            if answer:
                for signs in itertools.product((1, -1), repeat=many + 1):
                    filling = tuple(sign * (at + 1) for at, sign in enumerate(signs))
                    self.assertTrue(keeps((clause,), filling) or not keeps(residue, filling))
        self.assertGreater(min(counts.values()), 400)


class Refutes(unittest.TestCase):
    def test_rows_that_do(self):
        self.assertIs(refutes(((),), ((),)), True)
        self.assertIs(refutes(((-1,), (1,)), ((),)), True)
        self.assertIs(refutes(TWO, ((1,), ())), True)
        self.assertIs(refutes(TWO, ((-2,), ())), True)
        self.assertIs(refutes(TWO, ((1,), (-1,), ())), True)
        self.assertIs(refutes(THREE, CHAIN), True)
        self.assertIs(refutes(THREE, ((-1, -2), (-1, 2), (-1,), (1, -2), (1, 2), (1,), ())), True)
        self.assertIs(refutes(THREE, ((-1, -2), (-1,), (1, -2), ())), True)

    def test_more_than_is_needed(self):
        self.assertIs(refutes(THREE, ((1, 2), (1, 2, 9)) + CHAIN), True)
        self.assertIs(refutes(THREE, CHAIN[:-1] + ((4,), (-5, 6), ())), True)
        self.assertIs(refutes(THREE, CHAIN + ((4,), (1, 2, 3), ())), True)
        self.assertIs(refutes(((),), ((3,), ())), True)
        self.assertIs(refutes(THREE, CHAIN[:1] + CHAIN[:1] + CHAIN), True)

    def test_a_row_left_out(self):
        self.assertIs(refutes(THREE, CHAIN[1:]), False)
        self.assertIs(refutes(THREE, ((-1,), (1, -2), (1,), ())), False)
        self.assertIs(refutes(THREE, ((-1, -2), (-1,), ())), False)
        self.assertIs(refutes(THREE, ((-1, -2), ())), False)
        self.assertIs(refutes(THREE, ((),)), False)
        self.assertIs(refutes(TWO, ((),)), False)

    def test_a_literal_turned(self):
        residue = residue_of([(1, 2), (1, -2), (-1, 3, 4), (-3, 4), (3, -4), (-3, -4)])
        self.assertIs(refutes(residue, ((1,), (3,), ())), True)
        self.assertIs(refutes(residue, ((-1,), (3,), ())), False)
        self.assertIs(refutes(residue, ((1,), (-3,), ())), True)
        self.assertIs(refutes(THREE, ((-1, -2), (-1,), ())), False)
        self.assertIs(refutes(THREE, ((-1, -2), (1,), ())), False)

    def test_another_order(self):
        self.assertIs(refutes(THREE, ((-1,), (-1, -2), (1, -2), (1,), ())), False)
        self.assertIs(refutes(THREE, ((1,), (1, -2), (-1, -2), (-1,), ())), False)
        self.assertIs(refutes(THREE, ((), (-1, -2), (-1,), (1, -2), (1,))), False)
        self.assertIs(refutes(THREE, ((1, -2), (-1, -2), (1,), (-1,), ())), True)

    def test_no_row(self):
        self.assertIs(refutes(THREE, ()), False)
        self.assertIs(refutes(((),), ()), False)
        self.assertIs(refutes((), ()), False)

    def test_the_last_row_is_not_empty(self):
        self.assertIs(refutes(THREE, CHAIN[:-1]), False)
        self.assertIs(refutes(THREE, CHAIN + ((4,),)), False)
        self.assertIs(refutes(((),), ((), (1,))), False)
        self.assertIs(refutes(((1,),), ((1,),)), False)

    def test_residues_that_can_be_kept(self):
        self.assertIs(refutes((), ((),)), False)
        self.assertIs(refutes(((1, 2),), ((),)), False)
        self.assertIs(refutes(((-1, 2), (1,)), ((2,), ())), False)
        self.assertIs(refutes(((1, 2),), ((1,), (-1,), ())), False)

    def test_other_values_than_tuples_of_clauses(self):
        self.assertIs(refutes(THREE, list(CHAIN)), False)
        self.assertIs(refutes(((),), [()]), False)
        self.assertIs(refutes(((),), []), False)
        for value in (None, True, False, 0, 1, "", "no", (None,), (0, ()), ("", ()), ([], ()), ([1], ()), (True, ()),
                      ((0,), ()), ((1000,), ()), ((1, -1), ()), ((2, 1), ()), ((1, 1), ()), ((True,), ()), (("1",), ()),
                      (((1,),), ()), ([],), ((), [])):
            self.assertIs(refutes(((),), value), False, value)

    def test_chains_of_a_search(self):
        source = random.Random(47)
        looked = 0
        for _ in range(300):
            many = source.randint(3, 9)
            residue = some_residue(source, many, many * 5, [2, 3, 3, 3])
            answer = search(residue)
            if answer[0] != "refuted":
                continue
            rows = answer[1]
            looked += 1
            self.assertIs(refutes(residue, rows), True)
            self.assertIs(slow_refutes(residue, rows), True)
            for _ in range(6):
                changed = list(rows)
                at = source.randrange(len(rows))
                way = source.randrange(4)
                if way == 0:
                    del changed[at]
                elif way == 1 and rows[at]:
                    place = source.randrange(len(rows[at]))
                    changed[at] = tuple(-x if k == place else x for k, x in enumerate(rows[at]))
                elif way == 2:
                    other = source.randrange(len(rows))
                    changed[at], changed[other] = changed[other], changed[at]
                elif rows[at]:
                    changed[at] = rows[at][1:]
                self.assertIs(refutes(residue, tuple(changed)), slow_refutes(residue, changed))
        self.assertGreater(looked, 100)

    def test_some_rows(self):
        source = random.Random(48)
        counts = {True: 0, False: 0}
        for _ in range(2500):
            many = source.randint(2, 6)
            residue = some_residue(source, many, source.randint(4, 24), [1, 2, 2, 2, 3, 3, 3])
            rows = list(some_residue(source, many, source.randint(0, 5), [1, 1, 2, 2, 3]))
            source.shuffle(rows)
            rows = [row for row in rows if slow_follows(residue, row) or source.random() < 0.3] + [()]
            answer = refutes(residue, tuple(rows))
            self.assertIs(answer, slow_refutes(residue, rows))
            counts[answer] += 1
        self.assertGreater(min(counts.values()), 500)

    def test_a_long_chain(self):
        residue = residue_of(list(THREE) + [(-v, v + 1) for v in range(4, 900)])
        rows = CHAIN[:-1] + tuple((-v, 900) for v in range(899, 3, -1)) + ((),)
        self.assertIs(refutes(residue, rows), True)
        self.assertIs(refutes(residue, rows[:1] + rows[2:3] + rows[4:]), False)


if __name__ == "__main__":
    unittest.main()
