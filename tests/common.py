"""What several tests share: formulas, weights, policies and sheets made at random, and slow answers from the tables."""

import inspect
import itertools
import sys
from fractions import Fraction

from countsworn.chains import follows
from countsworn.clauses import (clause_of, literal_key, residue_of, residue_with, under, variables_of, weight_of)
from countsworn.encode import encode
from countsworn.fractions import product, total
from countsworn.plain import plain_models
from countsworn.residues import lessened, parts_of, units
from countsworn.search import search

WEIGHTS = [(0, 1), (1, 1), (1, 2), (1, 2), (2, 3), (7, 5), (3, 1), (1, 100)]


def some_clause(source, variables, sizes):
    """Some clause of a few of these variables."""
    chosen = sorted(source.sample(variables, min(len(variables), source.choice(sizes))))
    return tuple(v * source.choice([1, -1]) for v in chosen)


def some_formula(source, shown=5, hidden=3, clauses=12, sizes=(1, 2, 2, 3, 3, 4)):
    """Some formula with at most so many variables and clauses; some of the shown ones are in no clause."""
    names = source.sample(range(1, 15), source.randint(0, shown) + source.randint(0, hidden))
    cut = source.randint(max(0, len(names) - hidden), min(shown, len(names)))
    used = sorted(source.sample(names, max(0, len(names) - source.choice([0, 0, 1, 2]))))
    rows = [some_clause(source, used, sizes) for _ in range(source.randint(0, clauses))]
    rows = [row for row in rows if row != () or source.random() < 0.02]
    return (tuple(sorted(names[:cut])), tuple(sorted(names[cut:])), residue_of(rows))


def some_weights(source, formula):
    """Some weights for a formula, some of them missing, 0 or equal."""
    found = []
    for variable in formula[0]:
        for literal in (-variable, variable):
            if source.random() < 0.7:
                found.append((literal, source.choice(WEIGHTS)))
    return tuple(found)


def some_policy(source):
    """Some policy."""
    order = source.choice([("least",), ("most",), ("row", tuple(source.sample(range(1, 15), source.randint(0, 6))))])
    return (order,) + tuple(source.random() < 0.5 for _ in range(4))


def every_policy(rows=((), (3, 1, 2))):
    """A list of a policy for each order and each row of True and False."""
    orders = [("least",), ("most",)] + [("row", row) for row in rows]
    return [(order,) + flags for order in orders for flags in itertools.product((True, False), repeat=4)]


class Prover:
    """Makes sheets in any way that the table of rules allows."""

    def __init__(self, source, formula, open_chance):
        self.source = source
        self.formula = formula
        self.open_chance = open_chance
        self.nodes = []

    def sheet(self):
        self.make(self.formula[2], 0)
        return (self.formula, tuple(self.nodes))

    def make(self, residue, depth):
        """The number of a new node of a residue, or now and then of an old one."""
        known = [number for number, node in enumerate(self.nodes) if node[0] == residue]
        if known and self.source.random() < 0.5 and depth > 0:
            return self.source.choice(known)
        rule = self.rule_for(residue, depth)
        self.nodes.append((residue, rule))
        return len(self.nodes) - 1

    def rule_for(self, residue, depth):
        ways = [self.leaf, self.leaf, self.unit, self.unit, self.choice, self.parts, self.less]
        if depth < 6:
            ways += [self.more, self.more]
        if self.source.random() < self.open_chance:
            return ("open",)
        self.source.shuffle(ways)
        for way in ways + [self.leaf, self.unit, self.choice]:
            rule = way(residue, depth + 1)
            if rule is not None:
                return rule
        return ("no",)

    def hides(self, residue):
        return not any(v in self.formula[0] for v in variables_of(residue))

    def leaf(self, residue, depth):
        found = []
        if residue == ():
            found.append(("yes",))
        if () in residue:
            found += [("no",), ("refuted", ((),))]
        answer = search(residue)
        if answer[0] == "refuted" or (answer[0] == "some" and self.hides(residue)):
            found.append(answer)
        return self.source.choice(found) if found else None

    def unit(self, residue, depth):
        if not units(residue):
            return None
        literal = self.source.choice(units(residue))
        return ("unit", literal, self.make(under(residue, literal), depth))

    def choice(self, residue, depth):
        shown = [v for v in variables_of(residue) if v in self.formula[0]]
        if not shown:
            return None
        v = self.source.choice(shown)
        first = self.make(under(residue, v), depth)
        return ("choice", v, first, self.make(under(residue, -v), depth))

    def parts(self, residue, depth):
        if () in residue or len(parts_of(residue)) < 2:
            return None
        groups = parts_of(residue)
        self.source.shuffle(groups)
        while len(groups) > 2 and self.source.random() < 0.3:
            groups = [residue_of(list(groups[0] + groups[1]))] + groups[2:]
        return ("parts", tuple([self.make(group, depth) for group in groups]))

    def more(self, residue, depth):
        for _ in range(5):
            clause = some_clause(self.source, variables_of(residue), (0, 1, 1, 2, 2, 3))
            if clause not in residue and follows(residue, clause):
                return ("more", clause, self.make(residue_with(residue, clause), depth))
        return None

    def less(self, residue, depth):
        gone = [clause for clause in residue if clause not in lessened(residue) and self.source.random() < 0.7]
        # A clause may go only because of one that stays: the least ones within others always stay.
        if not gone:
            return None
        return ("less", self.make(tuple(c for c in residue if c not in gone), depth))


def wild_sheet(source, formula, open_chance=0.0):
    """Some sheet of a formula, with any rules that fit."""
    return Prover(source, formula, open_chance).sheet()


def renamed_clause(clause, names):
    """The clause with other names for its variables."""
    return clause_of([names.get(abs(l), abs(l)) * (1 if l > 0 else -1) for l in clause])


def weight_in(weights, filling):
    """The weight of a filling."""
    return product([weight_of(weights, literal) for literal in filling])


def keyed(filling):
    """What fillings ascend by."""
    return [literal_key(literal) for literal in filling]


def ranked(formula, weights):
    """The models with their weights, by descending weight and then ascending."""
    rows = [(weight_in(weights, model), model) for model in plain_models(formula)]
    return sorted(rows, key=lambda row: (-Fraction(*row[0]), keyed(row[1])))


def sums_by_literal(formula, weights):
    """The sums of the models that have each literal."""
    models = plain_models(formula)
    return [(literal, total([weight_in(weights, model) for model in models if literal in model]))
            for v in formula[0] for literal in (-v, v)]


def drawn(formula, weights, share):
    """The model at a share, by laying the models side by side."""
    rows = [(Fraction(*weight_in(weights, model)), model) for model in plain_models(formula)]
    point = Fraction(*share) * sum(weight for weight, _ in rows)
    for weight, model in rows:
        if point < weight:
            return model
        point -= weight
    return None


def pair_of(value):
    """A Python fraction as a pair."""
    return (value.numerator, value.denominator)


def given_models(formula, literals):
    """The models that have all of some literals."""
    return [model for model in plain_models(formula) if all(literal in model for literal in literals)]


def told_formula(formula, literals):
    """The formula with a clause for each literal."""
    return (formula[0], formula[1], residue_of(list(formula[2]) + [(literal,) for literal in literals]))


def path_formula(many):
    """A formula of many shown variables in a row, of each two neighbours one at least held."""
    return (tuple(range(1, many + 1)), (), residue_of([(v, v + 1) for v in range(1, many)]))


def path_counts(many):
    """The number of models of path_formula."""
    low, high = 1, 1
    for _ in range(many - 1):
        low, high = high, low + high
    return low + high


def odd_formula(many):
    """A formula of so many shown variables, of which an odd number is held."""
    rows = [("var", v) for v in range(1, many + 1)]
    # By halves, so that the expression is not deep.
    while len(rows) > 1:
        rows = [("xor", a, b) for a, b in zip(rows[::2], rows[1::2])] + rows[len(rows) // 2 * 2:]
    return encode(rows, tuple(range(1, many + 1)))


class Shallow:
    """Lets calls go at most some 90 deeper than here."""

    def __enter__(self):
        self.limit = sys.getrecursionlimit()
        sys.setrecursionlimit(len(inspect.stack(0)) + 90)

    def __exit__(self, *rest):
        sys.setrecursionlimit(self.limit)
