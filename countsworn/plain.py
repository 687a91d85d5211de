"""Models and their sum by going through all fillings: slow, and easy to follow."""

from countsworn.clauses import keeps
from countsworn.fractions import product, total


def fillings_of(variables):
    """The list of all fillings of some variables, ascending."""
    fillings = [()]
    for variable in variables:
        fillings = [filling + (literal,) for filling in fillings for literal in (-variable, variable)]
    return fillings


def plain_models(formula):
    """The ascending list of the models of a formula."""
    shown, hidden, residue = formula
    completions = fillings_of(hidden)
    found = []
    for filling in fillings_of(shown):
        if any(keeps(residue, filling + completion) for completion in completions):
            found.append(filling)
    return found


def plain_sum(formula, weights):
    """The sum of the weights of the models of a formula."""
    own = {literal: weight for literal, weight in weights}
    found = plain_models(formula)
    return total([product([own[literal] for literal in filling if literal in own]) for filling in found])
