"""A keeper: a formula that changes, and a sheet of it that is kept up."""

from countsworn.changes import with_clause, without_clause
from countsworn.compiler import BOUNDLESS, Maker
from countsworn.errors import PolicyError
from countsworn.policy import is_policy, with_cache
from countsworn.walks import sum_of


class Keeper:
    """Keeps a sheet of a formula up; nodes that were made once are used again."""

    def __init__(self, formula, policy):
        if not is_policy(policy):
            raise PolicyError("this is no policy")
        self.formula = formula
        self.maker = Maker(formula, with_cache(policy), BOUNDLESS)
        self.maker.make(formula[2])

    def change(self, formula):
        """Takes another formula, and makes its nodes at once: whatever stood once needs none later."""
        self.formula = formula
        self.maker.make(formula[2])

    def put(self, clause):
        """Adds a clause to the formula."""
        self.change(with_clause(self.formula, clause))

    def take(self, clause):
        """Takes a clause away from the formula."""
        self.change(without_clause(self.formula, clause))

    def sheet_now(self):
        """A sheet of the formula as it stands, without open nodes."""
        return self.maker.sheet_of(self.formula)

    def nodes_made(self):
        """The number of nodes that were made in all."""
        return len(self.maker.nodes)

    def total(self, weights):
        """The sum of the formula as it stands."""
        return sum_of(self.sheet_now(), weights)
