"""Tests of [6.1] and [6.3]: sheets, and which of them the checker takes."""

import copy
import random
import unittest

from common import Shallow, some_formula, some_policy, wild_sheet
from countsworn.checker import check, refusal
from countsworn.chains import refutes
from countsworn.clauses import is_residue, keeps, residue_of, under, variables_of
from countsworn.compiler import compile_sheet
from countsworn.policy import USUAL
from countsworn.residues import lessened
from countsworn.sheets import children_of

ODD = [None, True, False, 0, 1, -1, "", "yes", (), (1,), (("yes",),), [], [()], ((),), "no", (True,), ((True,),)]


def nodes_for(*pairs):
    """Nodes of residues, which are put in order, and rules."""
    return tuple((residue_of(list(clauses)), rule) for clauses, rule in pairs)


class Hand(unittest.TestCase):
    """Sheets made by hand; the formula has the last node's residue and shown variables 1 to 6, hidden ones 7 to 9."""

    def refused(self, nodes, wanted, shown=(1, 2, 3, 4, 5, 6)):
        hidden = tuple(v for v in range(1, 10) if v not in shown)
        formula = (shown, hidden, nodes[-1][0])
        value = (formula, nodes)
        before = copy.deepcopy(value)
        self.assertEqual(refusal(formula, value), wanted, value)
        self.assertIs(check(formula, value), wanted is None)
        self.assertEqual(value, before)

    def taken(self, *pairs, shown=(1, 2, 3, 4, 5, 6)):
        self.refused(nodes_for(*pairs), None, shown)

    def not_taken(self, *pairs, shown=(1, 2, 3, 4, 5, 6)):
        """The last node is refused by its word, the others are taken."""
        nodes = nodes_for(*pairs)
        self.refused(nodes, (len(nodes) - 1, nodes[-1][1][0]), shown)


class Leaves(Hand):
    def test_yes(self):
        self.taken(([], ("yes",)))
        for clauses in ([()], [(1,)], [(7,)], [(), (1, 2)]):
            self.not_taken((clauses, ("yes",)))

    def test_no(self):
        self.taken(([()], ("no",)))
        self.taken(([(), (1,), (2, 3)], ("no",)))
        for clauses in ([], [(1,)], [(-1,), (1,)]):
            self.not_taken((clauses, ("no",)))

    def test_open(self):
        for clauses in ([], [()], [(1,)], [(7, 8)], [(-1,), (1,)]):
            self.taken((clauses, ("open",)))

    def test_refuted(self):
        four = [(-1, -2), (-1, 2), (1, -2), (1, 2)]
        self.taken((four, ("refuted", ((-1,), (1,), ()))))
        self.taken((four, ("refuted", ((1,), ()))))
        self.taken((four, ("refuted", ((1,), (), ()))))
        self.taken(([(-7, -8), (-7, 8), (7, -8), (7, 8)], ("refuted", ((-7,), ()))))
        self.taken(([(-1,), (1,)], ("refuted", ((),))))
        self.taken(([()], ("refuted", ((),))))
        self.taken(([(), (4,)], ("refuted", ((6,), ()))))
        # No rows, a row that does not follow, the last row not empty, rows of a residue that can be kept.
        self.not_taken((four, ("refuted", ())))
        self.not_taken((four, ("refuted", ((),))))
        self.not_taken((four, ("refuted", ((1,), (-1,)))))
        self.not_taken((four[1:], ("refuted", ((1,), ()))))
        self.not_taken(([], ("refuted", ((),))))
        self.not_taken(([(1,)], ("refuted", ((1,), ()))))
        self.not_taken(([(1, 2), (1, -2)], ("refuted", ((1,), ()))))

    def test_some(self):
        self.taken(([(7, 8)], ("some", (7, -8))))
        self.taken(([(7, 8), (-8, 9)], ("some", (7, 8, 9))))
        self.taken(([], ("some", ())))
        # A shown variable; not a filling of just the variables; a clause that is not kept; out of order; twice.
        self.not_taken(([(1, 8)], ("some", (1, 8))))
        self.not_taken(([(1,)], ("some", (1,))))
        self.not_taken(([(7, 8)], ("some", (7,))))
        self.not_taken(([(7, 8)], ("some", (7, 8, 9))))
        self.not_taken(([(7, 8)], ("some", (7, 9))))
        self.not_taken(([(7, 8)], ("some", (-7, -8))))
        self.not_taken(([(7, 8), (-8, 9)], ("some", (7, 8, -9))))
        self.not_taken(([(7, 8)], ("some", (8, 7))))
        self.not_taken(([(7, 8)], ("some", (7, 7, 8))))
        self.not_taken(([(7, 8)], ("some", (-7, 7, 8))))
        self.not_taken(([(7, 8)], ("some", ())))
        self.not_taken(([()], ("some", ())))
        self.not_taken(([], ("some", (7,))))

    def test_some_with_other_shown_variables(self):
        self.taken(([(1, 8)], ("some", (1, -8))), shown=(2, 3))
        self.not_taken(([(1, 8)], ("some", (1, -8))), shown=(8,))


class Inner(Hand):
    def test_unit(self):
        self.taken(([], ("yes",)), ([(1,)], ("unit", 1, 0)))
        self.taken(([], ("yes",)), ([(-7,)], ("unit", -7, 0)))
        self.taken(([(3,)], ("open",)), ([(-2,), (2, 3)], ("unit", -2, 0)))
        self.taken(([()], ("no",)), ([(-1,), (1,)], ("unit", -1, 0)))
        self.taken(([()], ("no",)), ([(-1,), (1,)], ("unit", 1, 0)))
        self.taken(([(4,)], ("open",)), ([(3,), (4,)], ("unit", 3, 0)))
        # No unit; its opposite; another one's child; not what is left.
        self.not_taken(([], ("yes",)), ([(1, 2)], ("unit", 1, 0)))
        self.not_taken(([()], ("no",)), ([(1,)], ("unit", -1, 0)))
        self.not_taken(([(4,)], ("open",)), ([(3,), (4,)], ("unit", 4, 0)))
        self.not_taken(([], ("yes",)), ([(3,), (4,)], ("unit", 3, 0)))
        self.not_taken(([(3,), (4,)], ("open",)), ([(3,), (4,)], ("unit", 3, 0)))
        self.not_taken(([(3,)], ("open",)), ([(-2, 3), (2,), (2, 4)], ("unit", 5, 0)))

    def test_choice(self):
        first, second = ([(3,)], ("open",)), ([(2,)], ("open",))
        both = [(-1, 3), (1, 2)]
        self.taken(first, second, (both, ("choice", 1, 0, 1)))
        self.taken(([(3,)], ("open",)), ([(-1, 3), (1, 3)], ("choice", 1, 0, 0)))
        self.taken(([()], ("no",)), ([], ("yes",)), ([(-1,)], ("choice", 1, 0, 1)))
        # Children the other way round, both the same, a variable that is not there, a literal, a hidden one.
        self.not_taken(first, second, (both, ("choice", 1, 1, 0)))
        self.not_taken(first, second, (both, ("choice", 1, 0, 0)))
        self.not_taken(first, second, (both, ("choice", 1, 1, 1)))
        self.not_taken(first, second, (both, ("choice", 4, 0, 1)))
        self.not_taken((both, ("open",)), (both, ("choice", 4, 0, 0)))
        self.not_taken(first, second, (both, ("choice", -1, 1, 0)))
        self.not_taken(first, second, (both, ("choice", 2, 0, 1)))
        self.not_taken(first, second, (both, ("choice", 1, 0, 1)), shown=(2, 3))
        self.not_taken(([(3,)], ("open",)), ([(7,)], ("open",)), ([(3, -8), (7, 8)], ("choice", 8, 0, 1)))

    def test_parts(self):
        one, two, three = ([(1, 2)], ("open",)), ([(-3,)], ("open",)), ([(4, 7), (-7,)], ("open",))
        all_three = [(1, 2), (-3,), (4, 7), (-7,)]
        self.taken(one, two, ([(1, 2), (-3,)], ("parts", (0, 1))))
        self.taken(one, two, ([(1, 2), (-3,)], ("parts", (1, 0))))
        self.taken(one, two, three, (all_three, ("parts", (2, 0, 1))))
        # Children that could fall apart further are parts, too.
        self.taken(([(1, 2), (-3,)], ("open",)), three, (all_three, ("parts", (0, 1))))
        # One child, none, the same twice, a clause left out, one too many.
        self.not_taken(one, ([(1, 2)], ("parts", (0,))))
        self.not_taken(one, ([(1, 2)], ("parts", ())))
        self.not_taken(([], ("yes",)), ([], ("parts", ())))
        self.not_taken(one, two, ([(1, 2), (-3,)], ("parts", (0, 1, 0))))
        self.not_taken(one, one, ([(1, 2)], ("parts", (0, 1))))
        self.not_taken(one, two, three, (all_three, ("parts", (0, 1))))
        self.not_taken(one, two, three, ([(1, 2), (-3,)], ("parts", (0, 1, 2))))
        # A child with the residue (), the empty clause, a common variable shown or hidden.
        self.not_taken(one, ([], ("yes",)), ([(1, 2)], ("parts", (0, 1))))
        self.not_taken(one, two, ([], ("yes",)), ([(1, 2), (-3,)], ("parts", (0, 1, 2))))
        self.not_taken(one, ([()], ("no",)), ([(), (1, 2)], ("parts", (0, 1))))
        self.not_taken(one, two, ([(), (1, 2), (-3,)], ("parts", (0, 1))))
        self.not_taken(one, ([(2, 3)], ("open",)), ([(1, 2), (2, 3)], ("parts", (0, 1))))
        self.not_taken(([(1, 7)], ("open",)), ([(2, -7)], ("open",)), ([(1, 7), (2, -7)], ("parts", (0, 1))))
        self.not_taken(([(1, 2), (3,)], ("open",)), ([(3,), (4,)], ("open",)),
                       ([(1, 2), (3,), (4,)], ("parts", (0, 1))))

    def test_more(self):
        clauses = [(1, 2), (1, -2), (2, 3)]
        self.taken((clauses + [(1,)], ("open",)), (clauses, ("more", (1,), 0)))
        self.taken((clauses + [(1, 3)], ("open",)), (clauses, ("more", (1, 3), 0)))
        self.taken((clauses + [(1, 2, 3)], ("open",)), (clauses, ("more", (1, 2, 3), 0)))
        self.taken(([(), (1,), (-1,)], ("no",)), ([(1,), (-1,)], ("more", (), 0)))
        self.taken(([(), (1,)], ("no",)), ([(), (1,)], ("open",)), ([(), (1,)], ("open",)))
        self.taken(([(), (1,), (-1,)], ("no",)), ([(), (1,)], ("more", (-1,), 0)))
        # It does not follow by units, is there already, has a new variable, the child has another residue.
        self.not_taken((clauses + [(2,)], ("open",)), (clauses, ("more", (2,), 0)))
        self.not_taken((clauses + [(-1,)], ("open",)), (clauses, ("more", (-1,), 0)))
        self.not_taken((clauses, ("open",)), (clauses, ("more", (1, 2), 0)))
        self.not_taken((clauses + [(1, 4)], ("open",)), (clauses, ("more", (1, 4), 0)))
        self.not_taken((clauses, ("open",)), (clauses, ("more", (1,), 0)))
        self.not_taken((clauses + [(3,)], ("open",)), (clauses, ("more", (1,), 0)))
        self.not_taken((clauses[1:] + [(1,)], ("open",)), (clauses, ("more", (1,), 0)))
        self.not_taken((clauses + [(1,), (3,)], ("open",)), (clauses, ("more", (1,), 0)))
        # What follows, but not by units.
        eight = [(a, b, c) for a in (-1, 1) for b in (-2, 2) for c in (-3, 3)]
        self.not_taken((eight + [()], ("no",)), (eight, ("more", (), 0)))
        self.not_taken((eight + [(1,)], ("open",)), (eight, ("more", (1,), 0)))
        self.taken((eight + [(1, 2)], ("open",)), (eight, ("more", (1, 2), 0)))

    def test_less(self):
        clauses = [(1,), (1, 2), (1, 3), (-3, 4), (-3, 4, 5)]
        self.taken(([(1,), (-3, 4)], ("open",)), (clauses, ("less", 0)))
        self.taken(([(1,), (1, 3), (-3, 4)], ("open",)), (clauses, ("less", 0)))
        self.taken(([(1,), (1, 2), (1, 3), (-3, 4)], ("open",)), (clauses, ("less", 0)))
        self.taken(([()], ("no",)), ([(), (1,), (2, 3)], ("less", 0)))
        # The same, a clause without one within it, a new clause, nothing left, what is left within only itself.
        self.not_taken((clauses, ("open",)), (clauses, ("less", 0)))
        self.not_taken(([(1,)], ("open",)), (clauses, ("less", 0)))
        self.not_taken(([(-3, 4)], ("open",)), (clauses, ("less", 0)))
        self.not_taken(([(1,), (-3, 4, 5)], ("open",)), (clauses, ("less", 0)))
        self.not_taken(([(1,), (4,)], ("open",)), (clauses, ("less", 0)))
        self.not_taken(([(1,), (-3, 4), (6,)], ("open",)), (clauses, ("less", 0)))
        self.not_taken(([], ("yes",)), ([(1,)], ("less", 0)))
        self.not_taken(([], ("yes",)), ([], ("less", 0)))
        self.not_taken(([(1,)], ("open",)), ([(), (1,)], ("less", 0)))
        self.not_taken(([(1, 2)], ("open",)), ([(1, 2), (-1, 2, 3)], ("less", 0)))
        self.not_taken(([(1,), (1, 2)], ("open",)), ([(1,), (1, 3)], ("less", 0)))
        self.not_taken(([(1,), (2,)], ("open",)), ([(1,)], ("less", 0)))


class Forms(Hand):
    def of_rule(self, rule, word, extra=()):
        """The rule as that of node 2, above a yes and an open node of ((1,),)."""
        nodes = (((), ("yes",)), (((1,),), ("open",)), (((1,), (2,)), rule)) + extra
        self.refused(nodes, (2, word))

    def test_no_rules(self):
        for rule in ODD:
            self.of_rule(rule, "rule")
        for rule in ((None,), (1,), (True,), ("YES",), ("yess",), ("units", 1, 0), ("",), (("yes",),), (["yes"],),
                     ["yes"], ["open"], ["unit", 1, 0], ({"a": 1},), ("Open",), ("open ",)):
            self.of_rule(rule, "rule")

    def test_too_few_and_too_many_items(self):
        for rule in (("yes", 0), ("yes", ()), ("no", 1), ("no", "no"), ("open", 0), ("open", None), ("refuted",),
                     ("refuted", ((),), 0), ("some",), ("some", (1,), 0), ("some", 1, 2), ("unit",), ("unit", 1),
                     ("unit", 1, 0, 0), ("choice", 1), ("choice", 1, 0), ("choice", 1, 0, 0, 0), ("parts",),
                     ("parts", 0, 1), ("parts", (0, 1), 0), ("more", (1,)), ("more", 0), ("more", (1,), 0, 0),
                     ("less",), ("less", 0, 0), ("less", 0, (1,))):
            self.of_rule(rule, "rule")

    def test_children_that_are_no_numbers_below(self):
        for child in [None, True, False, -1, 2, 3, 100, 10 ** 30, "a", "0", (), (0,), [], [0], -2, ("yes",)]:
            for rule in (("unit", 1, child), ("choice", 1, child, 0), ("choice", 1, 0, child), ("parts", (0, child)),
                         ("parts", (child,)), ("parts", (child, 1)), ("more", (1,), child), ("less", child)):
                self.of_rule(rule, "rule")
        for children in [None, 0, 1, True, "ab", [], [0, 1], ((0, 1),), ([0], [1])]:
            self.of_rule(("parts", children), "rule")

    def test_items_that_are_no_literals_and_clauses(self):
        for literal in [None, True, False, 0, 1000, -1000, 10 ** 20, "1", "a", (), (1,), [1], ((1,),)]:
            for rule in (("unit", literal, 0), ("choice", literal, 0, 0), ("some", (literal,)), ("some", (1, literal)),
                         ("more", (literal,), 0), ("refuted", ((literal,), ())), ("refuted", ((1, literal), ()))):
                self.of_rule(rule, "rule")
        for clause in [None, 1, True, "ab", [], [1], (2, 1), (1, 1), (-1, 1), (1, -1), (1, (2,)), ((),)]:
            self.of_rule(("more", clause, 0), "rule")
            self.of_rule(("refuted", (clause, ())), "rule")
            self.of_rule(("refuted", ((), clause)), "rule")
        for rows in [None, 0, True, "a", [], [()], [(1,), ()], (1,), ([],), ([1],)]:
            self.of_rule(("refuted", rows), "rule")
        for filling in [None, 0, True, "a", [], [1], [1, 2], ((1,),), ([1],)]:
            self.of_rule(("some", filling), "rule")

    def test_what_has_the_form_is_refused_by_its_word(self):
        for rule in (("yes",), ("no",), ("refuted", ()), ("refuted", ((1,),)), ("some", ()), ("some", (2, 1)),
                     ("some", (1, 1)), ("some", (-1, 1)), ("unit", 999, 0), ("unit", -1, 1), ("choice", -2, 0, 0),
                     ("choice", 999, 1, 0), ("parts", ()), ("parts", (0,)), ("parts", (1, 1)), ("parts", (0, 1, 0, 1)),
                     ("more", (1,), 0), ("more", (), 1), ("more", (999,), 1), ("less", 0), ("less", 1)):
            self.of_rule(rule, rule[0])

    def test_residues(self):
        for residue in [None, True, 0, 7, "", "ab", [], [()], [(1,)], (1,), (None,), ((1, 1),), ((2, 1),), ((0,),),
                        ((1000,),), ((True,),), ((-1, True),), ((1,), (1,)), ((2,), (1,)), ((1,), ()), ((), ()),
                        (((1,),),), ([1],), ((1,), [2]), (("a",),), ((1,), None), ((1, 2), (1,)), ((1,), (-1,)),
                        ((None,),), (([],),), ((1,), (True, 2)), ((1, 2), (True, 2)), ((False,),)]:
            self.assertFalse(is_residue(residue))
            for rule in (("open",), ("yes",), ("no",), None, ("unit", 1, 0), ("what",)):
                nodes = (((), ("yes",)), (residue, rule), (((1,),), ("open",)))
                self.refused(nodes, (1, "residue"))

    def test_true_is_not_found_as_a_clause_seen_before(self):
        good = ((1, 2), (3,))
        for bad in (((True, 2), (3,)), ((True, 2),)):
            nodes = ((good, ("open",)), (bad, ("open",)), (good, ("open",)))
            self.refused(nodes, (1, "residue"))
            nodes = ((bad, ("open",)), (good, ("open",)))
            self.refused(nodes, (0, "residue"))

    def test_the_first_one_refused(self):
        good = ((), ("yes",))
        for bad, word in [(((1, 1), ("yes",)), "residue"), (((), ("what",)), "rule"), (((), ("no",)), "no"),
                          ((((1,),), ("unit", 2, 0)), "unit")]:
            for many in range(1, 4):
                nodes = (good,) * many + (bad, (7, 7), ((), 7), ((), ("no",)), good)
                self.refused(nodes, (many, word))
        self.refused((good, good, (((1,),), ("yes",))), (2, "yes"))

    def test_nodes_that_are_not_reached_are_looked_at_too(self):
        self.refused((((), ("no",)), ((), ("yes",))), (0, "no"))
        self.refused((((), ("yes",)), (((999,),), ("unit", 999, 0)), ((), ("yes",))), None)


class Values(unittest.TestCase):
    FORMULA = ((1, 2), (3,), ((1, 2), (-2, 3)))

    def form(self, value, formula=FORMULA):
        self.assertEqual(refusal(formula, value), (-1, "form"), value)
        self.assertIs(check(formula, value), False)

    def test_odd_values(self):
        for value in ODD + ["abc", 10 ** 50, (None, None), ((), ()), ("a", "b")]:
            self.form(value)

    def test_no_pair_of_the_formula_and_nodes(self):
        nodes = ((self.FORMULA[2], ("open",)),)
        self.assertIsNone(refusal(self.FORMULA, (self.FORMULA, nodes)))
        self.assertIs(check(self.FORMULA, (self.FORMULA, nodes)), True)
        for value in ((self.FORMULA,), (self.FORMULA, nodes, ()), [self.FORMULA, nodes], (self.FORMULA, list(nodes)),
                      (nodes, self.FORMULA), (self.FORMULA, nodes[0]), (self.FORMULA, ()), (self.FORMULA, None),
                      (self.FORMULA, "ab"), (list(self.FORMULA), nodes), (None, nodes), (self.FORMULA, (None,)),
                      (self.FORMULA, nodes + (None,)), (self.FORMULA, ((),) + nodes), (self.FORMULA, ("ab",) + nodes),
                      (self.FORMULA, (nodes[0] + (1,),)), (self.FORMULA, ((self.FORMULA[2],),)),
                      (self.FORMULA, (list(nodes[0]),)), (self.FORMULA, ([(), ("yes",)],) + nodes), self.FORMULA):
            self.form(value)

    def test_another_formula(self):
        nodes = ((self.FORMULA[2], ("open",)),)
        for formula in (((1, 2, 3), (), self.FORMULA[2]), ((1, 2), (3, 4), self.FORMULA[2]), ((1, 2), (3,), ()),
                        ((1, 2), (3,), ((1, 2),)), ((1,), (2, 3), self.FORMULA[2])):
            self.form((formula, nodes))
            self.form((formula, ((formula[2], ("open",)),)))
            self.form((self.FORMULA, nodes), formula)

    def test_another_residue_of_the_last_node(self):
        for residue in ((), ((1, 2),), ((1, 2), (-2, 3), (3,)), ((-2, 3), (1, 2)), [(1, 2), (-2, 3)], None, 5, "a",
                        ([1, 2], [-2, 3]), ((1, 2), [-2, 3]), ((True, 2), (-2, 3))):
            self.form((self.FORMULA, ((residue, ("open",)),)))
            self.form((self.FORMULA, ((self.FORMULA[2], ("open",)), (residue, ("open",)))))

    def test_true_and_false_are_no_integers(self):
        formula = ((1, 2), (), ((1,), (1, 2)))
        nodes = ((formula[2], ("open",)),)
        for other in (((True, 2), (), ((1,), (1, 2))), ((1, 2), (), ((True,), (1, 2))),
                      ((1, 2), (), ((1,), (True, 2)))):
            self.assertEqual(other, formula)
            self.form((other, nodes), formula)
        for residue in (((True,), (1, 2)), ((1,), (True, 2))):
            self.form((formula, ((residue, ("open",)),)), formula)
            nodes = ((residue, ("open",)), (formula[2], ("open",)))
            self.assertEqual(refusal(formula, (formula, nodes)), (0, "residue"))
        below = (((), ("yes",)), (((1,),), ("unit", 1, 0)))
        for rule in (("less", True), ("less", False)):
            self.assertEqual(refusal(formula, (formula, below + ((formula[2], rule),))), (2, "rule"))
        self.assertIsNone(refusal(formula, (formula, below + ((formula[2], ("less", 1)),))))
        for rule in (("unit", True, 0), ("unit", 1, False)):
            nodes = (below[0], (((1,),), rule), (formula[2], ("less", 1)))
            self.assertEqual(refusal(formula, (formula, nodes)), (1, "rule"))

    def test_the_whole_value_deep(self):
        deep = ()
        for _ in range(200):
            deep = (deep,)
        with Shallow():
            nodes = ((self.FORMULA[2], ("open",)),)
            for value in (deep, (deep, deep), (self.FORMULA, deep), (deep, nodes), (self.FORMULA, (deep,)),
                          (self.FORMULA, ((self.FORMULA[2], deep), deep))):
                self.form(value)
            for node, word in (((deep, ("yes",)), "residue"), (((), deep), "rule"), (((), ("some", deep)), "rule"),
                               (((), ("refuted", deep)), "rule"), (((), ("less", deep)), "rule"),
                               (((), ("parts", deep)), "rule"), (((), ("more", deep, 0)), "rule")):
                self.assertEqual(refusal(self.FORMULA, (self.FORMULA, (nodes[0], node) + nodes)), (1, word))


def slow_fits(formula, nodes, number):
    """Whether a node of the right form is as the table says, word by word."""
    residue, rule = nodes[number]
    word = rule[0]
    rests = [nodes[child][0] for child in children_of(rule)]
    if word == "yes":
        return residue == ()
    if word == "no":
        return () in residue
    if word == "refuted":
        return refutes(residue, rule[1])
    if word == "some":
        names = variables_of(residue)
        return (not set(names) & set(formula[0]) and tuple(map(abs, rule[1])) == names and keeps(residue, rule[1]))
    if word == "unit":
        return (rule[1],) in residue and rests == [under(residue, rule[1])]
    if word == "choice":
        return (rule[1] in set(formula[0]) & set(variables_of(residue)) and
                rests == [under(residue, rule[1]), under(residue, -rule[1])])
    if word == "parts":
        names = [name for rest in rests for name in variables_of(rest)]
        return (len(rests) >= 2 and len(set(rule[1])) == len(rests) and () not in rests and () not in residue and
                len(names) == len(set(names)) and residue_of([row for rest in rests for row in rest]) == residue)
    if word == "less":
        return (set(rests[0]) < set(residue) and
                all(any(set(row) <= set(clause) for row in rests[0]) for clause in residue if clause not in rests[0]))
    return word == "open"


class Many(unittest.TestCase):
    def test_sheets_of_all_kinds(self):
        source = random.Random(601)
        for turn in range(800):
            formula = some_formula(source)
            sheet = wild_sheet(source, formula, source.choice([0, 0.1]))
            self.assertIsNone(refusal(formula, sheet), sheet)
            self.assertIs(check(formula, sheet), True)
            other = compile_sheet(formula, some_policy(source), fuel=source.choice([0, 1, 3, 100]))
            self.assertIsNone(refusal(formula, other))

    def test_rules_between_nodes_of_sheets(self):
        # Rules with other children, literals and residues: what is refused is what the slow table refuses first.
        source = random.Random(602)
        refused = 0
        for turn in range(4000):
            formula = some_formula(source, clauses=6)
            nodes = list(wild_sheet(source, formula, 0.2)[1])
            number = source.randrange(len(nodes))
            literal = source.choice([-1, 1]) * source.randint(1, 14)
            rules = [("yes",), ("no",), ("some", (literal,)), ("some", ())]
            if number > 0:
                a, b = source.randrange(number), source.randrange(number)
                rules += [("unit", literal, a), ("choice", abs(literal), a, b), ("parts", (a, b)), ("less", a)]
                rules += [("unit", literal, number - 1), ("less", number - 1), ("parts", (number - 1, b))]
            residue = source.choice([nodes[number][0], lessened(nodes[number][0])])
            if number == len(nodes) - 1:
                residue = nodes[number][0]
            nodes[number] = (residue, source.choice(rules + [nodes[number][1]]))
            wanted = None
            for at, (_, rule) in enumerate(nodes):
                if wanted is None and rule[0] != "more" and not slow_fits(formula, nodes, at):
                    wanted = (at, rule[0])
            found = refusal(formula, (formula, tuple(nodes)))
            if found is None or found[1] != "more":
                self.assertEqual(found, wanted, nodes)
                refused += found is not None
            else:
                self.assertTrue(wanted is None or wanted[0] > found[0])
        self.assertGreater(refused, 1000)

    def test_arguments_stay(self):
        source = random.Random(603)
        for turn in range(100):
            formula = some_formula(source)
            sheet = wild_sheet(source, formula)
            before = copy.deepcopy((formula, sheet))
            refusal(formula, sheet)
            check(formula, sheet)
            self.assertEqual((formula, sheet), before)

    def test_a_hundred_thousand_nodes(self):
        formula = ((1, 2, 3), (), ((1, 2), (-2, 3)))
        nodes = [((), ("yes",)), (((1,), (3,)), ("open",)), (((1,),), ("open",))]
        while len(nodes) < 99999:
            nodes.append((((3,),), ("unit", 3, 0)))
            nodes.append((((1,),), ("unit", 1, 0)))
        nodes.append((formula[2], ("choice", 2, len(nodes) - 2, len(nodes) - 1)))
        with Shallow():
            self.assertIsNone(refusal(formula, (formula, tuple(nodes))))
            nodes[50001] = ((), ("no",))
            self.assertEqual(refusal(formula, (formula, tuple(nodes))), (50001, "no"))

    def test_far_down(self):
        with Shallow():
            formula = (tuple(range(1, 1000)), (), residue_of([(v, v + 1) for v in range(1, 999)]))
            sheet = compile_sheet(formula, (("least",), True, True, True, True))
            self.assertGreater(len(sheet[1]), 1900)
            self.assertIsNone(refusal(formula, sheet))
            nodes = list(sheet[1])
            nodes[1000] = (nodes[1000][0], ("no",))
            self.assertEqual(refusal(formula, (formula, tuple(nodes))), (1000, "no"))

    def test_a_formula_of_all_clauses(self):
        source = random.Random(604)
        rows = {}
        while len(rows) < 20000:
            names = sorted(source.sample(range(1, 1000), 3))
            rows[tuple(v * source.choice([1, -1]) for v in names)] = True
        formula = (tuple(range(1, 1000)), (), residue_of(list(rows)))
        sheet = compile_sheet(formula, USUAL, fuel=3)
        self.assertIsNone(refusal(formula, sheet))


if __name__ == "__main__":
    unittest.main()
