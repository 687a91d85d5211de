"""Tests of the interface at the end of the document: what is defined where, with which arguments."""

import ast
import unittest
from pathlib import Path

PACKAGE = Path(__file__).resolve().parent.parent / "countsworn"

FUNCTIONS = {
    "fractions.py": ["fraction(n, d)", "plus(a, b)", "minus(a, b)", "times(a, b)", "over(a, b)", "less(a, b)",
                     "greatest(a, b)", "total(row)", "product(row)", "show_fraction(a)", "read_fraction(text)",
                     "rounded(a, places)"],
    "clauses.py": ["literal_key(literal)", "clause_key(clause)", "clause_of(literals)", "residue_of(clauses)",
                   "variables_of(residue)", "under(residue, literal)", "under_all(residue, literals)",
                   "is_clause(value)", "is_residue(value)", "formula_faults(value)", "keeps(residue, filling)",
                   "weight_of(weights, literal)", "are_weights(formula, value)"],
    "text.py": ["show_formula(formula, weights)", "read_formula(text)"],
    "expressions.py": ["is_expression(value)", "holds(expression, filling)", "variables_in(expression)"],
    "words.py": ["show_expression(expression)", "read_expression(text)"],
    "encode.py": ["encode(expressions, shown)"],
    "plain.py": ["plain_sum(formula, weights)", "plain_models(formula)"],
    "residues.py": ["units(residue)", "propagate(residue, literals)", "parts_of(residue)", "lessened(residue)",
                    "shown_of(formula, residue)"],
    "chains.py": ["follows(residue, clause)", "refutes(residue, rows)"],
    "search.py": ["search(residue, *, fuel=10000)"],
    "sheets.py": ["children_of(rule)", "reached(sheet)", "is_open(sheet)", "tally(sheet)", "trimmed(sheet)"],
}
CLASSES = {
    "errors.py": ["CountsError", "FormulaError", "ExpressionError", "PackError", "OpenSheet", "NoFilling", "PolicyError",
                  "ChangeError"],
}


def definitions(name, kind):
    """The definitions of a kind at the top of a file."""
    tree = ast.parse((PACKAGE / name).read_text(encoding="utf-8"))
    return [node for node in tree.body if isinstance(node, kind)]


class Interface(unittest.TestCase):
    def test_functions(self):
        for name, promised in FUNCTIONS.items():
            found = [f"{node.name}({ast.unparse(node.args)})" for node in definitions(name, ast.FunctionDef)]
            for function in promised:
                self.assertIn(function, found, name)

    def test_classes(self):
        for name, promised in CLASSES.items():
            found = [node.name for node in definitions(name, ast.ClassDef)]
            for one in promised:
                self.assertIn(one, found, name)


class Files(unittest.TestCase):
    def files(self):
        return sorted(PACKAGE.rglob("*.py"))

    def test_the_package_has_its_mark(self):
        self.assertTrue((PACKAGE / "__init__.py").is_file())

    def test_sizes(self):
        for path in self.files():
            lines = path.read_text(encoding="utf-8").split("\n")
            self.assertLessEqual(len(lines), 400, path)
            self.assertLessEqual(max(len(line) for line in lines), 120, path)
            for node in ast.walk(ast.parse("\n".join(lines))):
                if isinstance(node, ast.FunctionDef):
                    self.assertLessEqual(node.end_lineno - node.lineno + 1, 40, (path, node.name))

    def test_characters(self):
        for path in self.files():
            for sign in path.read_text(encoding="utf-8"):
                self.assertTrue(sign == "\n" or " " <= sign <= "~", (path, sign))

    def test_imports(self):
        for path in self.files():
            for node in ast.walk(ast.parse(path.read_text(encoding="utf-8"))):
                self.assertNotIsInstance(node, ast.Import, path)
                if isinstance(node, ast.ImportFrom):
                    allowed = ("heapq", "math", "itertools", "collections", "__future__")
                    self.assertTrue(node.module.startswith("countsworn.") or node.module in allowed, path)


if __name__ == "__main__":
    unittest.main()
