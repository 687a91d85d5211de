"""Tests of [2.6]: formulas and weights as text."""

import random
import unittest

from countsworn.clauses import are_weights, formula_faults, residue_of
from countsworn.errors import FormulaError
from countsworn.fractions import fraction
from countsworn.text import read_formula, show_formula

FORMULA = ((1, 2, 5), (3, 4), ((), (-1, 2), (2, -3, 4), (5,)))
WEIGHTS = ((-1, (1, 3)), (1, (2, 1)), (5, (0, 1)))
TEXT = """shown 1 2 5
hidden 3 4
weight -1 1/3
weight 1 2
weight 5 0
clause
clause -1 2
clause 2 -3 4
clause 5
"""
EMPTY = (((), (), ()), ())


def some_formula(source):
    """A formula without faults, with weights."""
    variables = sorted(source.sample(range(1, 1000), source.randint(0, 8)))
    shown = tuple(variable for variable in variables if source.random() < 0.6)
    hidden = tuple(variable for variable in variables if variable not in shown)
    clauses = []
    for _ in range(source.randint(0, 8)):
        chosen = sorted(source.sample(variables, source.randint(0, min(3, len(variables)))))
        clauses.append(tuple(source.choice((1, -1)) * variable for variable in chosen))
    weights = [(literal, fraction(source.randint(0, 20), source.randint(1, 20)))
               for variable in shown for literal in (-variable, variable) if source.random() < 0.5]
    return (shown, hidden, residue_of(clauses)), tuple(weights)


class Showing(unittest.TestCase):
    def test_line_by_line(self):
        self.assertEqual(show_formula(FORMULA, WEIGHTS), TEXT)

    def test_no_hidden_variables(self):
        self.assertEqual(show_formula(((1,), (), ((-1,),)), ()), "shown 1\nclause -1\n")

    def test_no_shown_variables(self):
        self.assertEqual(show_formula(((), (2, 7), ((2, -7),)), ()), "shown\nhidden 2 7\nclause 2 -7\n")

    def test_nothing(self):
        self.assertEqual(show_formula(((), (), ()), ()), "shown\n")

    def test_the_empty_clause(self):
        self.assertEqual(show_formula(((), (), ((),)), ()), "shown\nclause\n")

    def test_weights(self):
        self.assertEqual(show_formula(((10, 11), (), ()), ((-10, (10, 7)), (11, (12, 1)))),
                         "shown 10 11\nweight -10 10/7\nweight 11 12\n")


class ThereAndBack(unittest.TestCase):
    def test_one(self):
        self.assertEqual(read_formula(TEXT), (FORMULA, WEIGHTS))

    def test_kinds(self):
        found = read_formula(TEXT)
        self.assertIsInstance(found, tuple)
        formula, weights = found
        self.assertEqual(formula_faults(formula), [])
        self.assertIs(are_weights(formula, weights), True)

    def test_many(self):
        source = random.Random(11)
        for _ in range(300):
            formula, weights = some_formula(source)
            self.assertEqual(formula_faults(formula), [])
            text = show_formula(formula, weights)
            self.assertEqual(read_formula(text), (formula, weights))
            lines = text.splitlines()
            source.shuffle(lines)
            self.assertEqual(read_formula("\n".join(lines)), (formula, weights))

    def test_bounds(self):
        shown, hidden = tuple(range(1, 1000, 2)), tuple(range(2, 1000, 2))
        residue = tuple((first, -second) for first in range(1, 25) for second in range(first + 1, 900))[:20000]
        formula = (shown, hidden, residue)
        weights = tuple((literal, (1, 999)) for variable in shown for literal in (-variable, variable))
        self.assertEqual(read_formula(show_formula(formula, weights)), (formula, weights))


class Reading(unittest.TestCase):
    def same(self, text, formula, weights=()):
        self.assertEqual(read_formula(text), (formula, weights), text)

    def test_nothing(self):
        for text in ("", "\n", "\n\n\n", "   ", "  \n \n", "# nothing", "#\n#\n", "shown", "shown\n", "hidden\n",
                     "shown\nhidden\nshown\n"):
            self.assertEqual(read_formula(text), EMPTY, text)

    def test_blanks(self):
        self.same("   shown    1  2   \n  clause   -1     2 \n   weight  1    1/2   \n hidden 3  ",
                  ((1, 2), (3,), ((-1, 2),)), ((1, (1, 2)),))

    def test_empty_lines(self):
        self.same("\n\nshown 1\n\n    \nclause 1\n\n \n", ((1,), (), ((1,),)))

    def test_remarks(self):
        self.same("# shown 9\nshown 1 2 # 3\n#clause 5\nclause 1 #2\nclause 2 ## x # y\n  # more\nweight 1 1/2 # 7\n"
                  "hidden #3\n# \u00e9\u4e2d\nclause # the empty one\n",
                  ((1, 2), (), ((), (1,), (2,))), ((1, (1, 2)),))

    def test_remarks_at_the_end(self):
        self.same("shown 1\n#", ((1,), (), ()))
        self.same("shown 1 #", ((1,), (), ()))

    def test_lines_in_any_order(self):
        self.same("clause 2 -3\nweight 2 3\nhidden 3\nclause 1\nweight -1 1/2\nshown 2\nshown 1\n",
                  ((1, 2), (3,), ((1,), (2, -3))), ((-1, (1, 2)), (2, (3, 1))))

    def test_several_lines_shown_and_hidden(self):
        self.same("shown 5\nhidden 4 1\nshown 3 2\nhidden 9\nshown\n", ((2, 3, 5), (1, 4, 9), ()))

    def test_variables_in_any_order(self):
        self.same("shown 10 9 1\nhidden 999 2\n", ((1, 9, 10), (2, 999), ()))

    def test_literals_repeated_and_turned(self):
        self.same("shown 1 2 3\nclause 3 -1 2\nclause 2 2 1 2\n", ((1, 2, 3), (), ((-1, 2, 3), (1, 2))))

    def test_clauses_repeated(self):
        self.same("shown 1 2\nclause 1 2\nclause 2 1\nclause 1 2 2\nclause\nclause\n", ((1, 2), (), ((), (1, 2))))

    def test_clauses_out_of_order(self):
        self.same("shown 1 2\nclause 2\nclause 1 2\nclause 1\nclause -1\n", ((1, 2), (), ((-1,), (1,), (1, 2), (2,))))

    def test_both_signs(self):
        self.same("shown 1 2\nclause 1 -1\nclause 2 1 -2\nclause 2\n", ((1, 2), (), ((2,),)))

    def test_weights_out_of_order(self):
        self.same("shown 2 1\nweight 2 1\nweight -2 0\nweight 1 5/2\nweight -1 1/7\n", ((1, 2), (), ()),
                  ((-1, (1, 7)), (1, (5, 2)), (-2, (0, 1)), (2, (1, 1))))

    def test_no_line_feed_at_the_end(self):
        self.same("shown 1\nclause -1", ((1,), (), ((-1,),)))
        self.same("shown 1\nweight 1 1/2", ((1,), (), ()), ((1, (1, 2)),))
        self.same("clause 1\nshown 1", ((1,), (), ((1,),)))

    def test_more_clauses_than_the_bound(self):
        lines = [f"clause {first} {second}" for first in range(1, 25) for second in range(first + 1, 900)][:20010]
        formula, weights = read_formula("shown " + " ".join(str(v) for v in range(1, 1000)) + "\n" + "\n".join(lines))
        self.assertEqual((len(formula[2]), weights), (20010, ()))


class Refusing(unittest.TestCase):
    def fails(self, line, text):
        with self.assertRaises(FormulaError, msg=text) as caught:
            read_formula(text)
        self.assertEqual(caught.exception.line, line, text)

    def item(self, line):
        """A faulty line, alone, behind others and ahead of others."""
        self.fails(1, line)
        self.fails(1, line + "\n")
        self.fails(2, "shown 1 2\n" + line + "\nclause 1")
        self.fails(5, "\n# remark\n  \nshown 1 2\n" + line + "\nclause 1 2\nclause 2\n")

    def test_other_words(self):
        for word in ("Shown", "show", "shown1", "shownx", "x", "1", "-1", "clauses", "weights", "hid", "p", "cnf", "sum",
                     "shown#", "shown,", "CLAUSE", "0", "c"):
            self.item(word)
            self.item(word + " 1")
            self.item("  " + word + " 1 1/2")

    def test_variables(self):
        for item in ("0", "00", "01", "+1", "-1", "-0", "1000", "99999999999", "9" * 5000, "x", "1x", "x1", "1.0", "1/1",
                     "1,2", "--1", "-", "+", "1#", "1_0", "\u0661", "\u00b2", "1\t", "1\r"):
            self.item("shown " + item)
            self.item("hidden " + item)
            self.item("shown 7 " + item + " 8")
            self.item("hidden 7 " + item + " 8")

    def test_literals(self):
        for item in ("0", "-0", "01", "-01", "+1", "-+1", "+-1", "1000", "-1000", "9" * 5000, "x", "-x", "1x", "--1", "-",
                     "+", "1.0", "1/2", "1,", "1#2", "\u0661", "-\u00b2", "- 1", "1-"):
            self.item("clause " + item)
            self.item("clause 1 " + item)
            self.item("clause " + item + " 2")
            if " " not in item:
                self.item("weight " + item + " 1/2")

    def test_variables_told_twice(self):
        self.fails(1, "shown 1 1")
        self.fails(1, "hidden 4 5 4")
        self.fails(2, "shown 1\nshown 1")
        self.fails(2, "shown 1\nhidden 1")
        self.fails(2, "hidden 1\nshown 1")
        self.fails(2, "hidden 1\nhidden 2 1")
        self.fails(4, "shown 3\nhidden 4\n\nshown 5 4\n")

    def test_weights_without_one_literal_and_one_fraction(self):
        for line in ("weight", "weight 1", "weight 1/2", "weight 1 1/2 1/2", "weight 1 2 1/2", "weight 1 1 1", "weight 1/2 1",
                     "weight 1 # 1/2", "weight # 1 1/2", "weight 1 1/2 x"):
            self.item(line)

    def test_fractions(self):
        for item in ("2/4", "1/1", "0/1", "0/2", "1/0", "01", "1/02", "+1", "-0", "x", "0.5", "1/", "/2", "1/2/3", "1/-2",
                     "-1", "-1/2", "-7/3", "\u0661", "1/2#"):
            self.item("weight 1 " + item)
            self.item("weight -2 " + item)

    def test_fractions_in_two_items(self):
        self.item("weight 1 1 /2")
        self.item("weight 1 - 1")

    def test_a_literal_with_two_weights(self):
        self.fails(3, "shown 1\nweight 1 1/2\nweight 1 1/2\n")
        self.fails(3, "shown 1\nweight -1 1/2\nweight -1 1/3\n")
        self.fails(4, "weight 1 1\nweight -1 1\n\nweight 1 0\nshown 1")

    def test_the_first_line_counts(self):
        self.fails(2, "shown 1\nclause x\nclause y\nwhat\n")
        self.fails(2, "shown 1\nwhat\nclause x\n")
        self.fails(3, "shown 1\nweight 1 1\nweight 1 1\nshown 1\n")

    def test_unknown_variables(self):
        self.fails(1, "clause 1")
        self.fails(1, "clause -1")
        self.fails(2, "shown 1\nclause 1 2")
        self.fails(3, "shown 1\nhidden 3\nclause 1 -2 3")
        self.fails(3, "shown 1\nclause 1\nclause 2\nclause 3")
        self.fails(1, "clause 2\nclause 3\nshown 1 3")

    def test_unknown_variables_in_clauses_that_are_left_out(self):
        self.fails(2, "shown 1\nclause 2 -2\n")
        self.fails(2, "shown 1\nclause 1 -1 2\n")

    def test_weights_of_variables_that_are_not_shown(self):
        self.fails(2, "shown 1\nweight 2 1/2")
        self.fails(2, "hidden 2\nweight 2 1/2\nshown 1")
        self.fails(1, "weight -2 1/2\nhidden 2")
        self.fails(2, "shown 1\nweight 2 1\nclause 3")
        self.fails(2, "shown 1\nclause 3\nweight 2 1")
        self.fails(3, "shown 1\nclause 1\nweight 2 1\nclause 3")

    def test_a_later_line_makes_it_known(self):
        self.assertEqual(read_formula("clause 1 -2\nweight 1 3\nhidden 2\nshown 1"),
                         (((1,), (2,), ((1, -2),)), ((1, (3, 1)),)))

    def test_unknown_variables_only_if_no_other_line_has_a_fault(self):
        self.fails(3, "shown 1\nclause 2\nclause x\n")
        self.fails(4, "clause 2\nweight 9 1/2\nclause 3\nwhat\n")
        self.fails(3, "clause 5\nshown 1\nhidden 1\n")
        self.fails(3, "hidden 2\nweight 2 1\nweight 2 1\n")
        self.fails(2, "weight 3 1\nweight 3 1\nshown 1")


if __name__ == "__main__":
    unittest.main()
