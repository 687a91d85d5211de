"""Tests of [6.1] and [6.4]: the rules of nodes, and what the root of a sheet reaches."""

import copy
import random
import unittest

from common import Shallow
from countsworn.sheets import children_of, is_open, reached, tally, trimmed

# A sheet by hand: of the clauses (1, 2) and (-1, 3) over three shown variables.
FORMULA = ((1, 2, 3), (), ((-1, 3), (1, 2)))
SHEET = (FORMULA, (
    ((), ("yes",)),
    (((3,),), ("unit", 3, 0)),
    (((2,),), ("unit", 2, 0)),
    (FORMULA[2], ("choice", 1, 1, 2))))


def sheet_of(*rules):
    """A sheet of these rules, with a residue for each node by which it is known again."""
    return (FORMULA, tuple((((number + 1,),), rule) for number, rule in enumerate(rules)))


def some_sheet(source, many):
    """Some sheet of so many nodes, whose rules have the form alone."""
    rules = [source.choice([("yes",), ("open",)])]
    while len(rules) < many:
        a = source.randrange(len(rules))
        b = source.randrange(len(rules))
        children = tuple(source.sample(range(len(rules)), min(len(rules), source.randint(2, 4))))
        rules.append(source.choice([
            ("yes",), ("no",), ("refuted", ((1,), ())), ("some", (-1, 2)), ("open",), ("unit", -3, a),
            ("choice", 7, a, b), ("choice", 7, a, b), ("parts", children),
            ("parts", children), ("more", (-1, 4), a), ("less", a)]))
    return sheet_of(*rules)


def slow_reached(sheet):
    """The reached nodes, by going from the root along every way."""
    found = set()
    waiting = [len(sheet[1]) - 1]
    while waiting:
        number = waiting.pop()
        if number not in found:
            found.add(number)
            waiting.extend(children_of(sheet[1][number][1]))
    return sorted(found)


class Children(unittest.TestCase):
    def test_each_rule(self):
        for rule, children in [
                (("yes",), ()), (("no",), ()), (("open",), ()), (("refuted", ((-1,), (1,), ())), ()),
                (("refuted", ((),)), ()), (("some", (1, -2)), ()), (("some", ()), ()), (("unit", -5, 7), (7,)),
                (("unit", 5, 0), (0,)), (("choice", 3, 8, 2), (8, 2)), (("choice", 3, 1, 2), (1, 2)),
                (("choice", 3, 4, 4), (4, 4)), (("parts", (4, 0, 9)), (4, 0, 9)), (("parts", (1, 2)), (1, 2)),
                (("more", (-1, 4), 6), (6,)), (("more", (), 3), (3,)), (("less", 0), (0,)), (("less", 11), (11,))]:
            self.assertEqual(children_of(rule), children, rule)
            self.assertIsInstance(children_of(rule), tuple)


class Reached(unittest.TestCase):
    def test_all(self):
        self.assertEqual(reached(SHEET), [0, 1, 2, 3])
        self.assertIsInstance(reached(SHEET), list)
        self.assertEqual(reached(sheet_of(("yes",))), [0])

    def test_not_all(self):
        self.assertEqual(reached(sheet_of(("yes",), ("no",))), [1])
        self.assertEqual(reached(sheet_of(("yes",), ("no",), ("unit", 1, 0))), [0, 2])
        self.assertEqual(reached(sheet_of(("yes",), ("no",), ("less", 1), ("unit", 1, 0), ("less", 3))), [0, 3, 4])

    def test_twice(self):
        sheet = sheet_of(("yes",), ("no",), ("less", 0), ("choice", 1, 2, 0), ("unit", 4, 1), ("parts", (3, 2)))
        self.assertEqual(reached(sheet), [0, 2, 3, 5])

    def test_each_rule(self):
        leaves = [("yes",), ("no",), ("open",)]
        for rule, found in [(("unit", 2, 1), [1, 3]), (("choice", 2, 0, 2), [0, 2, 3]), (("parts", (2, 1)), [1, 2, 3]),
                            (("parts", (0, 1, 2)), [0, 1, 2, 3]), (("more", (1,), 2), [2, 3]), (("less", 0), [0, 3]),
                            (("some", (0, 1)), [3]), (("refuted", ((1,), ())), [3]), (("open",), [3])]:
            self.assertEqual(reached(sheet_of(*leaves, rule)), found)

    def test_some_sheets(self):
        source = random.Random(61)
        for _ in range(500):
            sheet = some_sheet(source, source.randint(1, 25))
            self.assertEqual(reached(sheet), slow_reached(sheet))


class Open(unittest.TestCase):
    def test_reached(self):
        self.assertIs(is_open(sheet_of(("open",))), True)
        self.assertIs(is_open(sheet_of(("open",), ("unit", 1, 0))), True)
        self.assertIs(is_open(sheet_of(("yes",), ("open",), ("choice", 1, 0, 1))), True)
        self.assertIs(is_open(sheet_of(("yes",), ("open",), ("less", 1), ("parts", (0, 2)))), True)

    def test_not_reached(self):
        self.assertIs(is_open(SHEET), False)
        self.assertIs(is_open(sheet_of(("open",), ("yes",))), False)
        self.assertIs(is_open(sheet_of(("open",), ("yes",), ("less", 0), ("unit", 1, 1))), False)
        self.assertIs(is_open(sheet_of(("no",))), False)


class Tally(unittest.TestCase):
    def test_tally(self):
        self.assertEqual(tally(SHEET), [("choice", 1), ("unit", 2), ("yes", 1)])
        self.assertEqual(tally(sheet_of(("open",))), [("open", 1)])
        sheet = sheet_of(("yes",), ("no",), ("some", (3,)), ("refuted", ((),)), ("open",), ("unit", 1, 0), ("less", 2),
                         ("more", (4,), 3), ("choice", 1, 5, 6), ("choice", 1, 7, 4), ("parts", (8, 9, 1)))
        self.assertEqual(tally(sheet), [("choice", 2), ("less", 1), ("more", 1), ("no", 1), ("open", 1), ("parts", 1),
                                        ("refuted", 1), ("some", 1), ("unit", 1), ("yes", 1)])
        self.assertIsInstance(tally(sheet), list)
        self.assertIsInstance(tally(sheet)[0], tuple)

    def test_reached_alone(self):
        self.assertEqual(tally(sheet_of(("open",), ("yes",), ("unit", 1, 1))), [("unit", 1), ("yes", 1)])
        self.assertEqual(tally(sheet_of(("yes",), ("yes",), ("no",), ("unit", 1, 1))), [("unit", 1), ("yes", 1)])

    def test_twice_counts_once(self):
        self.assertEqual(tally(sheet_of(("yes",), ("unit", 1, 0), ("choice", 1, 1, 1), ("parts", (0, 2)))),
                         [("choice", 1), ("parts", 1), ("unit", 1), ("yes", 1)])

    def test_some_sheets(self):
        source = random.Random(62)
        for _ in range(300):
            sheet = some_sheet(source, source.randint(1, 25))
            words = [sheet[1][number][1][0] for number in slow_reached(sheet)]
            self.assertEqual(tally(sheet), sorted((word, words.count(word)) for word in set(words)))
            self.assertIs(is_open(sheet), "open" in words)


class Trimmed(unittest.TestCase):
    def test_nothing_to_trim(self):
        self.assertEqual(trimmed(SHEET), SHEET)
        self.assertEqual(trimmed(sheet_of(("yes",))), sheet_of(("yes",)))

    def test_new_numbers(self):
        nodes = [(((number + 1,),), rule) for number, rule in enumerate([
            ("open",), ("yes",), ("open",), ("no",), ("open",), ("unit", -2, 1), ("less", 0), ("some", (4,)),
            ("more", (1, 2), 3), ("less", 7), ("choice", 3, 5, 8), ("open",), ("parts", (9, 10, 5)), ("unit", 1, 12)])]
        found = trimmed((FORMULA, tuple(nodes)))
        wanted = [(1, ("yes",)), (3, ("no",)), (5, ("unit", -2, 0)), (7, ("some", (4,))), (8, ("more", (1, 2), 1)),
                  (9, ("less", 3)), (10, ("choice", 3, 2, 4)), (12, ("parts", (5, 6, 2))), (13, ("unit", 1, 7))]
        self.assertEqual(found, (FORMULA, tuple((nodes[number][0], rule) for number, rule in wanted)))
        for part in (found, found[1], *found[1], found[1][7][1], found[1][7][1][1]):
            self.assertIsInstance(part, tuple)

    def test_leaves_stay(self):
        for rule in (("yes",), ("no",), ("open",), ("some", (1, -2)), ("refuted", ((-1, 2), (1,), ()))):
            self.assertEqual(trimmed(sheet_of(("yes",), rule)), (FORMULA, ((((2,),), rule),)))

    def test_some_sheets(self):
        source = random.Random(63)
        for _ in range(400):
            sheet = some_sheet(source, source.randint(1, 25))
            before = copy.deepcopy(sheet)
            found = trimmed(sheet)
            self.assertEqual(sheet, before)
            kept = slow_reached(sheet)
            self.assertEqual(found[0], FORMULA)
            self.assertEqual([node[0] for node in found[1]], [sheet[1][number][0] for number in kept])
            for number, node in zip(kept, found[1]):
                old = sheet[1][number][1]
                children = children_of(node[1])
                self.assertEqual(tuple(kept[child] for child in children), children_of(old))
                self.assertEqual(len(node[1]), len(old))
                if old[0] != "parts" and old[0] != "less":
                    self.assertEqual(node[1][:2], old[:2])
                self.assertEqual(node[1][0], old[0])
            self.assertEqual(reached(found), list(range(len(kept))))
            self.assertEqual(trimmed(found), found)
            self.assertEqual(tally(found), tally(sheet))


class Many(unittest.TestCase):
    def test_long_chains(self):
        rules = [("yes",)]
        while len(rules) < 60000:
            last = len(rules) - 1
            rules.append([("unit", 5, last), ("less", last), ("more", (7,), last), ("choice", 3, last, 0)][last % 4])
        with Shallow():
            sheet = sheet_of(*rules)
            self.assertEqual(reached(sheet), list(range(60000)))
            self.assertIs(is_open(sheet), False)
            self.assertEqual(tally(sheet),
                             [("choice", 14999), ("less", 15000), ("more", 15000), ("unit", 15000), ("yes", 1)])
            self.assertEqual(trimmed(sheet), sheet)
            rules += [("open",), ("less", 59999)]
            sheet = sheet_of(*rules)
            self.assertEqual(reached(sheet), list(range(60000)) + [60001])
            self.assertIs(is_open(sheet), False)
            self.assertEqual(len(trimmed(sheet)[1]), 60001)
            self.assertEqual(trimmed(sheet)[1][-1], (((60002,),), ("less", 59999)))

    def test_many_ways(self):
        # From node to node there are two ways, from the first to the last far too many to go along each.
        rules = [("yes",)] + [("choice", 3, number, number) for number in range(3000)]
        sheet = sheet_of(*rules)
        self.assertEqual(reached(sheet), list(range(3001)))
        self.assertEqual(tally(sheet), [("choice", 3000), ("yes", 1)])
        self.assertEqual(trimmed(sheet), sheet)


if __name__ == "__main__":
    unittest.main()
