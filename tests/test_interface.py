"""Tests of the interface at the end of the document: what is defined where, with which arguments."""

import ast
import unittest
from pathlib import Path

PACKAGE = Path(__file__).resolve().parent.parent / "countsworn"

FUNCTIONS = {
    "fractions.py": ["fraction(n, d)", "plus(a, b)", "minus(a, b)", "times(a, b)", "over(a, b)", "less(a, b)",
                     "greatest(a, b)", "total(row)", "product(row)", "show_fraction(a)", "read_fraction(text)",
                     "rounded(a, places)"],
    "clauses.py": ["literal_key(literal)", "clause_key(clause)", "clause_of(literals)", "residue_of(clauses)",
                   "variables_of(residue)", "under(residue, literal)", "under_all(residue, literals)",
                   "is_clause(value)", "is_residue(value)", "formula_faults(value)", "keeps(residue, filling)",
                   "weight_of(weights, literal)", "are_weights(formula, value)"],
    "text.py": ["show_formula(formula, weights)", "read_formula(text)"],
    "expressions.py": ["is_expression(value)", "holds(expression, filling)", "variables_in(expression)"],
    "words.py": ["show_expression(expression)", "read_expression(text)"],
    "encode.py": ["encode(expressions, shown)"],
    "plain.py": ["plain_sum(formula, weights)", "plain_models(formula)"],
    "residues.py": ["units(residue)", "propagate(residue, literals)", "parts_of(residue)", "lessened(residue)",
                    "shown_of(formula, residue)"],
    "chains.py": ["follows(residue, clause)", "refutes(residue, rows)"],
    "search.py": ["search(residue, *, fuel=10000)"],
    "sheets.py": ["children_of(rule)", "reached(sheet)", "is_open(sheet)", "tally(sheet)", "trimmed(sheet)"],
    "checker.py": ["check(formula, value)", "refusal(formula, value)"],
    "walks.py": ["node_sums(sheet, weights)", "bounds(sheet, weights)", "sum_of(sheet, weights)",
                 "literal_sums(sheet, weights)", "chances(sheet, weights)", "surely(sheet)",
                 "is_possible(sheet, literals)"],
    "best.py": ["best(sheet, weights)", "best_rows(sheet, weights, count)"],
    "order.py": ["model_count(sheet)", "model_at(sheet, k)", "number_of(sheet, filling)", "models(sheet)",
                 "draw_at(sheet, weights, share)"],
    "policy.py": ["is_policy(value)", "chosen(formula, policy, residue)"],
    "compiler.py": ["compile_sheet(formula, policy, *, fuel=100000)", "decisions(formula, policy)"],
    "changes.py": ["condition(sheet, literals)", "hide(formula, variables)", "both(first, second)",
                   "with_clause(formula, clause)", "without_clause(formula, clause)"],
    "same.py": ["parting(first, second)", "implies(first, second)"],
    "packing.py": ["pack(value)", "unpack(data)", "check_bytes(formula, data)"],
    "listing.py": ["show_sheet(sheet)", "read_sheet(formula, text)"],
}
CLASSES = {
    "errors.py": ["CountsError", "FormulaError", "ExpressionError", "PackError", "OpenSheet", "NoFilling", "PolicyError",
                  "ChangeError"],
    "keeper.py": ["Keeper"],
    "house.py": ["House"],
}
METHODS = {
    "Keeper": ["__init__(self, formula, policy)", "put(self, clause)", "take(self, clause)", "sheet_now(self)",
               "nodes_made(self)", "total(self, weights)"],
    "House": ["__init__(self, formula, weights, *, policy=USUAL)", "put(self, clause)", "take(self, clause)",
              "weigh(self, literal, weight)", "tell(self, literal)", "untell(self, literal)", "told(self)", "count(self)",
              "total(self)", "chance(self, literal)", "best(self)", "at(self, k)", "draw(self, share)",
              "within(self, fuel)", "report(self)"],
}
VALUES = {"policy.py": ["PLAIN", "USUAL"]}


def definitions(name, kind):
    """The definitions of a kind at the top of a file."""
    tree = ast.parse((PACKAGE / name).read_text(encoding="utf-8"))
    return [node for node in tree.body if isinstance(node, kind)]


class Interface(unittest.TestCase):
    def test_functions(self):
        for name, promised in FUNCTIONS.items():
            found = [f"{node.name}({ast.unparse(node.args)})" for node in definitions(name, ast.FunctionDef)]
            for function in promised:
                self.assertIn(function, found, name)

    def test_classes(self):
        for name, promised in CLASSES.items():
            found = [node.name for node in definitions(name, ast.ClassDef)]
            for one in promised:
                self.assertIn(one, found, name)

    def test_methods(self):
        for name in CLASSES:
            for node in definitions(name, ast.ClassDef):
                own = [method for method in node.body if isinstance(method, ast.FunctionDef)]
                found = [f"{method.name}({ast.unparse(method.args)})" for method in own]
                for method in METHODS.get(node.name, []):
                    self.assertIn(method, found, node.name)

    def test_values(self):
        for name, promised in VALUES.items():
            found = [node.targets[0].id for node in definitions(name, ast.Assign)]
            for one in promised:
                self.assertIn(one, found, name)


class Files(unittest.TestCase):
    def files(self):
        return sorted(PACKAGE.rglob("*.py"))

    def test_the_package_has_its_mark(self):
        self.assertTrue((PACKAGE / "__init__.py").is_file())

    def test_sizes(self):
        for path in self.files():
            lines = path.read_text(encoding="utf-8").split("\n")
            self.assertLessEqual(len(lines), 400, path)
            self.assertLessEqual(max(len(line) for line in lines), 120, path)
            for node in ast.walk(ast.parse("\n".join(lines))):
                if isinstance(node, ast.FunctionDef):
                    self.assertLessEqual(node.end_lineno - node.lineno + 1, 40, (path, node.name))

    def test_characters(self):
        for path in self.files():
            for sign in path.read_text(encoding="utf-8"):
                self.assertTrue(sign == "\n" or " " <= sign <= "~", (path, sign))

    def test_imports(self):
        for path in self.files():
            for node in ast.walk(ast.parse(path.read_text(encoding="utf-8"))):
                self.assertNotIsInstance(node, ast.Import, path)
                if isinstance(node, ast.ImportFrom):
                    allowed = ("heapq", "math", "itertools", "collections", "__future__")
                    self.assertTrue(node.module.startswith("countsworn.") or node.module in allowed, path)


if __name__ == "__main__":
    unittest.main()
