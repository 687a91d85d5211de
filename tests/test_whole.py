"""Tests of [0.1] to [0.3]: the whole program, from expressions to answers."""

import copy
import random
import unittest
from fractions import Fraction

from common import (Shallow, drawn, every_policy, given_models, keyed, pair_of, ranked, some_formula, some_weights,
                    sums_by_literal, weight_in, wild_sheet)
from countsworn.best import best, best_rows
from countsworn.changes import both, condition, hide
from countsworn.checker import check, refusal
from countsworn.clauses import formula_faults, residue_of, under, under_all, variables_of
from countsworn.compiler import compile_sheet, decisions
from countsworn.encode import encode
from countsworn.errors import NoFilling
from countsworn.expressions import holds, is_expression
from countsworn.fractions import over, total
from countsworn.house import House
from countsworn.listing import read_sheet, show_sheet
from countsworn.order import draw_at, model_at, model_count, models, number_of
from countsworn.packing import check_bytes, pack, unpack
from countsworn.plain import fillings_of, plain_models, plain_sum
from countsworn.policy import PLAIN, USUAL
from countsworn.same import implies, parting
from countsworn.sheets import is_open, reached
from countsworn.text import read_formula, show_formula
from countsworn.walks import bounds, chances, is_possible, literal_sums, node_sums, sum_of, surely
from countsworn.words import read_expression, show_expression


def some_expression(source, variables, depth):
    """Some expression over these variables."""
    word = source.choice(["var", "not", "and", "or", "xor", "iff", "implies", "if", "atmost", "yes", "no"])
    if depth == 0 or word == "var":
        return ("var", source.choice(variables))
    many = {"yes": 0, "no": 0, "not": 1, "xor": 2, "iff": 2, "implies": 2, "if": 3}.get(word, source.randint(0, 3))
    parts = tuple([some_expression(source, variables, depth - 1) for _ in range(many)])
    return (word, source.randint(0, 2)) + parts if word == "atmost" else (word,) + parts


class Answers:
    """Every answer of a sheet without open nodes against the tables."""

    def answers(self, source, formula, sheet):
        weights = some_weights(source, formula)
        wanted = plain_sum(formula, weights)
        rows = plain_models(formula)
        self.assertEqual(sum_of(sheet, weights), wanted)
        self.assertEqual(bounds(sheet, weights), (wanted, wanted))
        self.assertEqual(node_sums(sheet, ())[-1][1], 1)
        sums = sums_by_literal(formula, weights)
        self.assertEqual(literal_sums(sheet, weights), sums)
        self.assertEqual(model_count(sheet), len(rows))
        self.assertEqual(list(models(sheet)), rows)
        self.assertEqual(best_rows(sheet, weights, 3), ranked(formula, weights)[:3])
        self.assertEqual(surely(sheet), tuple(l for l, _ in sums if all(l in row for row in rows)))
        for literal, _ in sums:
            self.assertIs(is_possible(sheet, [literal]), given_models(formula, [literal]) != [])
        if wanted != (0, 1):
            self.assertEqual(chances(sheet, weights), [(l, over(held, wanted)) for l, held in sums])
            share = pair_of(Fraction(source.randint(0, 12), 13))
            self.assertEqual(draw_at(sheet, weights, share), drawn(formula, weights, share))
        if rows:
            k = source.randrange(len(rows))
            self.assertEqual(model_at(sheet, k), rows[k])
            self.assertEqual(number_of(sheet, rows[k]), k)
            self.assertEqual(best(sheet, weights), ranked(formula, weights)[0])
        else:
            with self.assertRaises(NoFilling):
                best(sheet, weights)


class Whole(unittest.TestCase, Answers):
    def some_told(self, source):
        """Some expressions, and the formula of them, which has at most 16 variables."""
        while True:
            variables = source.sample(range(1, 12), source.randint(1, 5))
            told = [some_expression(source, variables, source.randint(1, 3)) for _ in range(source.randint(0, 3))]
            formula = encode(told, tuple(sorted(variables)))
            if len(formula[0] + formula[1]) <= 12:
                return told, formula

    def test_from_expressions_to_answers(self):
        source = random.Random(11)
        policies = every_policy()
        for turn in range(120):
            told, formula = self.some_told(source)
            before = copy.deepcopy((told, formula))
            for expression in told:
                self.assertTrue(is_expression(expression))
                self.assertEqual(read_expression(show_expression(expression)), expression)
            self.assertEqual(formula_faults(formula), [])
            rows = [filling for filling in fillings_of(formula[0]) if all(holds(one, filling) for one in told)]
            self.assertEqual(plain_models(formula), rows)
            weights = some_weights(source, formula)
            self.assertEqual(read_formula(show_formula(formula, weights)), (formula, weights))
            for policy in source.sample(policies, 5):
                sheet = compile_sheet(formula, policy)
                self.assertTrue(check(formula, sheet))
                self.assertEqual(list(models(sheet)), rows)
                self.answers(source, formula, sheet)
            self.assertEqual((told, formula), before)

    def test_every_policy_and_many_fuels(self):
        source = random.Random(12)
        for turn in range(6):
            told, formula = self.some_told(source)
            weights = some_weights(source, formula)
            wanted = Fraction(*plain_sum(formula, weights))
            for policy in every_policy():
                low, high = Fraction(0), None
                for fuel in sorted({0, 1, 2, 3, 5, 8, 20, decisions(formula, policy)}):
                    sheet = compile_sheet(formula, policy, fuel=fuel)
                    self.assertIsNone(refusal(formula, sheet))
                    self.assertEqual(unpack(pack(sheet)), sheet)
                    self.assertEqual(read_sheet(formula, show_sheet(sheet)), sheet)
                    first, second = [Fraction(*bound) for bound in bounds(sheet, weights)]
                    self.assertTrue(low <= first <= wanted <= second)
                    self.assertTrue(high is None or second <= high)
                    low, high = first, second
                    self.assertIs(is_open(sheet), fuel < decisions(formula, policy))

    def test_there_and_back(self):
        source = random.Random(13)
        for turn in range(150):
            formula = some_formula(source)
            sheet = compile_sheet(formula, source.choice(every_policy()))
            data = pack(sheet)
            self.assertTrue(check_bytes(formula, data))
            found = read_sheet(formula, show_sheet(unpack(data)))
            self.assertEqual(found, sheet)
            self.answers(source, formula, found)

    def test_given_and_hidden(self):
        source = random.Random(14)
        for turn in range(150):
            formula = some_formula(source)
            literals = [v * source.choice([1, -1]) for v in source.sample(formula[0], source.randint(0, len(formula[0])))]
            sheet = condition(compile_sheet(formula, source.choice(every_policy())), literals)
            given = (tuple(v for v in formula[0] if v not in literals and -v not in literals), formula[1],
                     under_all(formula[2], literals))
            self.assertEqual(sheet[0], given)
            self.assertTrue(check_bytes(given, pack(sheet)))
            self.answers(source, given, read_sheet(given, show_sheet(sheet)))
            gone = source.sample(given[0], source.randint(0, len(given[0])))
            less = hide(given, gone)
            self.answers(source, less, compile_sheet(less, source.choice(every_policy())))

    def test_two_ways_to_the_same_models(self):
        source = random.Random(15)
        for turn in range(60):
            told, formula = self.some_told(source)
            together = encode([("and",) + tuple(told)], formula[0])
            self.assertIsNone(parting(formula, together))
            apart = ((formula[0], (), ()) if not told else encode(told[:1], formula[0]))
            for expression in told[1:]:
                apart = both(apart, encode([expression], formula[0]))
            self.assertIsNone(parting(formula, apart))
            self.assertTrue(implies(formula, encode(told[:1], formula[0])))

    def test_a_house_of_expressions(self):
        source = random.Random(16)
        for turn in range(40):
            told, formula = self.some_told(source)
            weights = some_weights(source, formula)
            house = House(formula, weights, policy=source.choice(every_policy()))
            literal = source.choice(formula[0]) * source.choice([1, -1])
            house.tell(literal)
            rows = [model for model in plain_models(formula) if literal in model]
            self.assertEqual((house.count(), house.total()),
                             (len(rows), total([weight_in(weights, row) for row in rows])))


class AnySheet(unittest.TestCase, Answers):
    """Whatever the checker takes tells the truth."""

    def test_sheets_of_all_kinds(self):
        source = random.Random(21)
        for turn in range(300):
            formula = some_formula(source)
            sheet = wild_sheet(source, formula)
            self.assertTrue(check(formula, sheet))
            self.answers(source, formula, sheet)

    def changed(self, source, value):
        """A plain value with something in it changed."""
        if isinstance(value, tuple) and value and source.random() < 0.9:
            at = source.randrange(len(value))
            kind = source.random()
            if kind < 0.1:
                return value[:at] + value[at + 1:]
            if kind < 0.2:
                return value[:at] + (source.choice(value),) + value[at:]
            return value[:at] + (self.changed(source, value[at]),) + value[at + 1:]
        if isinstance(value, int) and source.random() < 0.7:
            return value + source.choice([-1, 1, -2 * value])
        return source.choice([None, True, False, 0, 1, -1, 2, (), ((),), "yes", "no", "open", "less", "parts", ("yes",),
                              ("no",), ("open",), ("less", 0), (1,), (2,)])

    def test_changed_sheets(self):
        source = random.Random(22)
        taken = 0
        for turn in range(60000):
            if turn % 20 == 0:
                formula = some_formula(source, shown=4, hidden=2, clauses=6)
                sheet = compile_sheet(formula, USUAL) if turn % 40 else wild_sheet(source, formula)
            value = self.changed(source, sheet)
            if check(formula, value) and value != sheet:
                taken += 1
                low, high = bounds(value, ())
                wanted = plain_sum(formula, ())
                self.assertTrue(Fraction(*low) <= Fraction(*wanted) <= Fraction(*high))
                if not is_open(value):
                    self.assertEqual(list(models(value)), plain_models(formula))
                    self.assertEqual(sum_of(value, ()), wanted)
        self.assertGreater(taken, 500)

    def test_rules_put_between_any_nodes(self):
        # Nodes of all residues around a formula with any rules that fit between them, without any plan.
        source = random.Random(23)
        taken = 0
        for turn in range(160):
            formula = some_formula(source, shown=3, hidden=2, clauses=4)
            residues = [(), ((),), formula[2]]
            for _ in range(8):
                residue = source.choice(residues)
                names = variables_of(residue)
                if names:
                    residues.append(under(residue, source.choice(names) * source.choice([1, -1])))
                residues.append(tuple(clause for clause in residue if source.random() < 0.7))
            residues = sorted(residues, key=lambda residue: (len(variables_of(residue)), len(residue)))
            nodes = []
            for residue in residues + [formula[2]]:
                self.put_any(source, formula, nodes, residue)
            sheet = (formula, tuple(nodes))
            if nodes[-1][0] == formula[2] and check(formula, sheet) and not is_open(sheet):
                taken += 1
                self.answers(source, formula, sheet)
        self.assertGreater(taken, 40)

    def put_any(self, source, formula, nodes, residue):
        """Adds a node of a residue with some rule that the checker takes."""
        many = len(nodes)
        rules = [("yes",), ("no",), ("refuted", ((),)), ("open",)]
        for filling in fillings_of(variables_of(residue))[:8]:
            rules.append(("some", filling))
        for a in range(many):
            rules += [("less", a)] + [("unit", clause[0], a) for clause in residue if len(clause) == 1]
            rules += [("more", clause, a) for clause in nodes[a][0]]
            for b in range(many):
                rules += [("parts", (a, b))] + [("choice", v, a, b) for v in formula[0]]
        source.shuffle(rules)
        for rule in [rule for rule in rules if rule != ("open",)] + [("open",)]:
            own = (formula[0], formula[1], residue)
            if check(own, (own, tuple(nodes) + ((residue, rule),))):
                nodes.append((residue, rule))
                return


class Beyond(unittest.TestCase):
    """What goes somewhat beyond a limit raises no error."""

    def test_variables_and_clauses(self):
        source = random.Random(31)
        with Shallow():
            shown = tuple(range(1, 1000))
            rows = {}
            while len(rows) < 20500:
                names = sorted(source.sample(shown, 3))
                rows[tuple(v * source.choice([1, -1]) for v in names)] = True
            formula = (shown, (), residue_of(list(rows)))
            for policy in (PLAIN, USUAL):
                sheet = compile_sheet(formula, policy, fuel=2)
                self.assertTrue(check(formula, sheet))
                self.assertEqual(read_sheet(formula, show_sheet(sheet)), sheet)
                self.assertTrue(check_bytes(formula, pack(sheet)))
                found = condition(sheet, [-1, 5])
                self.assertTrue(check(found[0], found))
                self.assertEqual(reached(found), list(range(len(found[1]))))

    def test_nodes(self):
        with Shallow():
            formula = ((1, 2, 3), (), ((1, 2), (-2, 3)))
            nodes = [((), ("yes",)), (((1,),), ("unit", 1, 0)), (((3,),), ("unit", 3, 0))]
            nodes += [(((1,), (3,)), ("parts", (1, 2)))] * 110000
            nodes.append((formula[2], ("choice", 2, 2, 1)))
            sheet = (formula, tuple(nodes))
            self.assertTrue(check(formula, sheet))
            self.assertEqual(sum_of(sheet, ()), (4, 1))
            self.assertEqual(len(node_sums(sheet, ())), 110004)
            self.assertEqual(best(sheet, ()), ((1, 1), (-1, 2, 3)))
            self.assertEqual(sorted(models(sheet), key=keyed), plain_models(formula))
            self.assertEqual(condition(sheet, [2])[1], (((), ("yes",)), (((3,),), ("unit", 3, 0))))
            self.assertEqual(unpack(pack(sheet)), sheet)
            self.assertEqual(show_sheet(sheet).count("\n"), 110004)


if __name__ == "__main__":
    unittest.main()
