"""Tests of [5.1] and [5.2]: the search for a filling that keeps a residue."""

import copy
import random
import unittest

from common import Shallow
from countsworn.chains import refutes
from countsworn.clauses import keeps, residue_of, under, variables_of
from countsworn.residues import propagate
from countsworn.search import search

TWO = residue_of([(a, b) for a in (-1, 1) for b in (-2, 2)])
THREE = residue_of([(a, b, c) for a in (-1, 1) for b in (-2, 2) for c in (-3, 3)])


def some_residue(source, many, count, sizes):
    """Some residue of at most so many variables and clauses."""
    rows = []
    for _ in range(count):
        chosen = sorted(source.sample(range(1, many + 1), min(many, source.choice(sizes))))
        rows.append(tuple(v * source.choice([1, -1]) for v in chosen))
    return residue_of(rows)


class OutOfFuel(Exception):
    pass


class Slow:
    """The search by the words of the document, with calls as deep as its decisions."""

    def __init__(self, residue, fuel):
        self.residue = residue
        self.fuel = fuel
        self.count = 0
        self.rows = []

    def answer(self):
        try:
            given = self.walk(self.residue, ())
        except OutOfFuel:
            return ("open",)
        if given is None:
            return ("refuted", tuple(self.rows))
        return ("some", tuple(v if v in given else -v for v in variables_of(self.residue)))

    def tell(self, decided):
        self.rows.append(tuple(sorted([-literal for literal in decided], key=abs)))

    def walk(self, residue, decided, given=()):
        """The literals that are given on the way to a filling, or None."""
        residue, found = propagate(residue, [])
        given = given + tuple(found)
        if residue == ((),):
            self.tell(decided)
            return None
        if residue == ():
            return given
        if self.count == self.fuel:
            raise OutOfFuel
        self.count += 1
        v = variables_of(residue)[0]
        for literal in (v, -v):
            end = self.walk(under(residue, literal), decided + (literal,), given + (literal,))
            if end is not None:
                return end
        self.tell(decided)
        return None


class Answers(unittest.TestCase):
    def check(self, clauses, answer, decisions):
        """Checks the answer with the fuel that the decisions need, with more, and with less."""
        residue = residue_of(clauses)
        self.assertEqual(search(residue), answer)
        for fuel in range(decisions + 4):
            self.assertEqual(search(residue, fuel=fuel), answer if fuel >= decisions else ("open",), fuel)

    def test_nothing(self):
        self.check([], ("some", ()), 0)
        self.check([()], ("refuted", ((),)), 0)
        self.check([(), (1,), (-2, 3)], ("refuted", ((),)), 0)

    def test_units_alone(self):
        self.check([(5,)], ("some", (5,)), 0)
        self.check([(-5,)], ("some", (-5,)), 0)
        self.check([(1,), (-1, -2), (2, 3)], ("some", (1, -2, 3)), 0)
        self.check([(-1,), (1,)], ("refuted", ((),)), 0)
        self.check([(1,), (-1, 2), (-2, 3), (-2, -3)], ("refuted", ((),)), 0)

    def test_what_nothing_asks_for(self):
        self.check([(1,), (1, 2), (1, -3, 4)], ("some", (1, -2, -3, -4)), 0)
        self.check([(1, 2)], ("some", (1, -2)), 1)
        self.check([(-1, 2)], ("some", (1, 2)), 1)
        self.check([(-1, -2)], ("some", (1, -2)), 1)
        self.check([(2, 9), (3, 9), (5, -9)], ("some", (2, 3, 5, -9)), 3)

    def test_the_least_variable_first_held(self):
        self.check([(3, 4), (7, 8)], ("some", (3, -4, 7, -8)), 2)
        self.check([(-3, -4), (4, 7)], ("some", (3, -4, 7)), 1)
        self.check([(3, -10), (-9, 10), (9, 11)], ("some", (3, 9, 10, -11)), 2)
        self.check([(-7, 8), (-7, 9), (-8, -9, 10)], ("some", (7, 8, 9, 10)), 1)

    def test_then_not_held(self):
        self.check([(-1, 2), (-1, -2)], ("some", (-1, -2)), 1)
        self.check([(-1, 2), (-1, -2), (1, 3)], ("some", (-1, -2, 3)), 1)
        self.check([(-1, 2), (-1, -2), (1, 2, 3), (-2, 3), (2, -3)], ("some", (-1, 2, 3)), 2)
        self.check([(-1, -2, 3), (-1, -2, -3), (1, 4)], ("some", (1, -2, -3, -4)), 2)

    def test_refuted(self):
        self.check(TWO, ("refuted", ((-1,), (1,), ())), 1)
        self.check(THREE, ("refuted", ((-1, -2), (-1, 2), (-1,), (1, -2), (1, 2), (1,), ())), 3)
        self.check([(5, -7), (-5, -7), (7, 9), (7, -9)], ("refuted", ((-5,), (5,), ())), 1)

    def test_rows_of_decisions_without_units(self):
        # Once 1 is held, 2 is a unit; 3 is decided, and 2 stands in no row.
        self.check([(-1, 2), (-2, 3, 4), (-2, 3, -4), (-2, -3, 4), (-2, -3, -4), (1, 2)],
                   ("refuted", ((-1, -3), (-1, 3), (-1,), (1, -3), (1, 3), (1,), ())), 3)
        # 1 is decided, and its decision has to do with nothing that fails.
        self.check([(1, 2), (5, 6), (5, -6), (-5, 6), (-5, -6)],
                   ("refuted", ((-1, -5), (-1, 5), (-1,), (1, -5), (1, 5), (1,), ())), 3)

    def test_rows_of_one_way_that_units_end(self):
        self.check([(-1, 2), (-1, -2), (1, 3, 4), (1, 3, -4), (1, -3, 4), (1, -3, -4)],
                   ("refuted", ((-1,), (1, -3), (1, 3), (1,), ())), 2)

    def test_kinds(self):
        for residue in ((), ((),), TWO, ((1, 2),)):
            answer = search(residue)
            self.assertIsInstance(answer, tuple)
            self.assertIsInstance(answer[1], tuple)
        self.assertTrue(all(isinstance(row, tuple) for row in search(TWO)[1]))
        self.assertEqual(search(TWO, fuel=0), ("open",))

    def test_usual_fuel(self):
        # The last eight variables cannot be kept, which takes 127 decisions for each way of the others.
        for many, decisions in ((78, 9983), (79, 10111)):
            clauses = [()]
            for v in range(many + 1, many + 9):
                clauses = [clause + (literal,) for clause in clauses for literal in (-v, v)]
            residue = residue_of(clauses + [(-v, v + 1) for v in range(1, many)])
            answer = search(residue)
            if decisions > 10000:
                self.assertEqual(answer, ("open",))
            else:
                self.assertEqual(answer[0], "refuted")
                self.assertEqual(search(residue, fuel=decisions), answer)
                self.assertEqual(search(residue, fuel=decisions - 1), ("open",))


class Some(unittest.TestCase):
    def test_some_residues(self):
        source = random.Random(51)
        words = {"some": 0, "refuted": 0, "open": 0}
        for _ in range(800):
            many = source.randint(1, 10)
            sizes = source.choice([[1, 2, 3], [2, 3], [3], [0, 2, 2, 2, 3, 3, 3, 3]])
            residue = some_residue(source, many, source.randint(0, many * 5), sizes)
            slow = Slow(residue, 10000)
            answer = slow.answer()
            for fuel in list(range(min(slow.count, 12) + 3)) + [slow.count - 1, slow.count, slow.count + 1]:
                if fuel >= 0:
                    found = search(residue, fuel=fuel)
                    words[found[0]] += 1
                    self.assertEqual(found, answer if fuel >= slow.count else ("open",))
            self.check(residue, answer)
        self.assertGreater(min(words.values()), 800)

    def check(self, residue, answer):
        """Checks that an answer says what is so."""
        if answer[0] == "some":
            self.assertIs(keeps(residue, answer[1]), True)
            self.assertEqual(tuple(abs(literal) for literal in answer[1]), variables_of(residue))
        else:
            self.assertIs(refutes(residue, answer[1]), True)

    def test_greater_residues(self):
        source = random.Random(52)
        for many, count in ((25, 105), (30, 130), (40, 175), (40, 160)):
            residue = some_residue(source, many, count, [3])
            slow = Slow(residue, 10000)
            answer = slow.answer()
            self.assertNotEqual(answer, ("open",))
            self.assertEqual(search(residue, fuel=slow.count), answer)
            self.assertEqual(search(residue, fuel=slow.count - 1), ("open",))
            self.check(residue, answer)

    def test_arguments_stay(self):
        residue = THREE + ((4, 5),)
        before = copy.deepcopy(residue)
        search(residue)
        self.assertEqual(residue, before)


class Many(unittest.TestCase):
    def test_many_decisions(self):
        residue = tuple((v, v + 1) for v in range(1, 999, 2))
        with Shallow():
            answer = search(residue)
            self.assertEqual(answer, ("some", tuple(v if v % 2 == 1 else -v for v in range(1, 999))))
            self.assertEqual(search(residue, fuel=499), answer)
            self.assertEqual(search(residue, fuel=498), ("open",))

    def test_many_units(self):
        row = [(-v, v + 1) for v in range(1, 999)]
        with Shallow():
            self.assertEqual(search(residue_of(row), fuel=1), ("some", tuple(range(1, 1000))))
            self.assertEqual(search(residue_of(row + [(1,)]), fuel=0), ("some", tuple(range(1, 1000))))
            self.assertEqual(search(residue_of(row + [(-999,)]), fuel=0), ("some", tuple(range(-1, -1000, -1))))
            self.assertEqual(search(residue_of(row + [(1,), (-999,)]), fuel=0), ("refuted", ((),)))

    def test_many_decisions_that_lead_nowhere(self):
        # The last three variables cannot be kept; those ahead of them are decided, one below the other.
        many = 300
        tail = [tuple(sign * (many + at + 1) for at, sign in enumerate(signs))
                for signs in ((a, b, c) for a in (1, -1) for b in (1, -1) for c in (1, -1))]
        row = [(-v, v + 1) for v in range(1, many)]
        with Shallow():
            answer = search(residue_of(row + tail))
        self.assertEqual(answer[0], "refuted")
        self.assertEqual(len(answer[1]), 7 * many + many - 1)
        self.assertEqual(answer[1][-1], ())
        self.assertIs(refutes(residue_of(row + tail), answer[1]), True)

    def test_decisions_and_units_in_turn(self):
        clauses = []
        for v in range(1, 900, 3):
            clauses += [(-v, v + 1), (-v, -v - 1, v + 2), (-v - 1, -v - 2)]
        residue = residue_of(clauses)
        with Shallow():
            answer = search(residue)
            self.assertEqual(search(residue, fuel=600), answer)
        self.assertIs(keeps(residue, answer[1]), True)


if __name__ == "__main__":
    unittest.main()
