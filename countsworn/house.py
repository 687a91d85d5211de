"""A house: a formula, weights and told literals that change, and the answers about them."""

from countsworn.best import best_rows
from countsworn.changes import with_clause, without_clause
from countsworn.clauses import are_weights, formula_faults, is_weight, literal_key, residue_with
from countsworn.compiler import BOUNDLESS, compile_sheet
from countsworn.errors import ChangeError, NoFilling, PolicyError
from countsworn.fractions import rounded, show_fraction
from countsworn.order import draw_at, model_at, model_count
from countsworn.policy import USUAL, is_policy, with_cache
from countsworn.walks import bounds, chances, sum_of


class House:
    """Keeps a formula, its weights and the literals that were told, and answers for the models that have all these."""

    def __init__(self, formula, weights, *, policy=USUAL):
        if formula_faults(formula) != [] or not are_weights(formula, weights):
            raise ChangeError("the formula has faults, or the weights are none for it")
        if not is_policy(policy):
            raise PolicyError("this is no policy")
        self.formula = formula
        self.policy = policy
        self.own = {literal: weight for literal, weight in weights}
        self.facts = []
        # The sheet is made when it is asked for, and then kept until something changes.
        self.made = None

    def put(self, clause):
        """Adds a clause to the formula."""
        self.formula = with_clause(self.formula, clause)
        self.made = None

    def take(self, clause):
        """Takes a clause away from the formula."""
        self.formula = without_clause(self.formula, clause)
        self.made = None

    def need_shown(self, literal):
        """Raises ChangeError if the variable of a literal is not shown."""
        if abs(literal) not in self.formula[0]:
            raise ChangeError("the variable is not shown")

    def weigh(self, literal, weight):
        """Gives a literal another weight."""
        self.need_shown(literal)
        if not is_weight((literal, weight)):
            raise ChangeError("the weight is no fraction, or below 0")
        self.own[literal] = weight

    def tell(self, literal):
        """Adds a told literal."""
        self.need_shown(literal)
        if literal in self.facts or -literal in self.facts:
            raise ChangeError("the variable is told already")
        self.facts.append(literal)
        self.made = None

    def untell(self, literal):
        """Takes a told literal away."""
        if literal not in self.facts:
            raise ChangeError("the literal is not told")
        self.facts.remove(literal)
        self.made = None

    @property
    def told(self):
        """The ascending tuple of the told literals."""
        return tuple(sorted(self.facts, key=literal_key))

    def weights_now(self):
        """The weights as they stand."""
        return tuple([(literal, self.own[literal]) for literal in sorted(list(self.own), key=literal_key)])

    def formula_now(self):
        """The formula with the clauses of the told literals."""
        shown, hidden, residue = self.formula
        for literal in self.facts:
            residue = residue_with(residue, (literal,))
        return (shown, hidden, residue)

    def sheet_now(self):
        """A sheet without open nodes of the formula with the clauses of the told literals."""
        if self.made is None:
            # The answers do not depend on the cache, and without it there may be far too many nodes.
            self.made = compile_sheet(self.formula_now(), with_cache(self.policy), fuel=BOUNDLESS)
        return self.made

    def count(self):
        """The number of the models that have all told literals."""
        return model_count(self.sheet_now())

    def total(self):
        """The sum of the weights of these models."""
        return sum_of(self.sheet_now(), self.weights_now())

    def chance(self, literal):
        """The part of the sum that those of these models have which have a literal."""
        self.need_shown(literal)
        found = {own: part for own, part in chances(self.sheet_now(), self.weights_now())}
        return found[literal]

    def best(self):
        """The greatest weight of one of these models, and the least one that has it."""
        found = best_rows(self.sheet_now(), self.weights_now(), 1)
        if found == []:
            raise NoFilling("no model has all told literals")
        return found[0]

    def at(self, k):
        """The one of these models with the number k."""
        return model_at(self.sheet_now(), k)

    def draw(self, share):
        """The one of these models at a share."""
        return draw_at(self.sheet_now(), self.weights_now(), share)

    def within(self, fuel):
        """The bounds of the sum that a sheet tells which is made with so much fuel."""
        return bounds(compile_sheet(self.formula_now(), self.policy, fuel=fuel), self.weights_now())

    def report(self):
        """A text of the number of models, the sum, and the chances of the shown variables to be held."""
        whole = self.total()
        lines = [f"models {self.count()}\n", f"sum {show_fraction(whole)}\n"]
        if whole != (0, 1):
            for literal, part in chances(self.sheet_now(), self.weights_now()):
                if literal > 0:
                    lines.append(f"{literal} {rounded(part, 4)}\n")
        return "".join(lines)
