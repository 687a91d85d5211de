"""Two formulas with the same shown variables: where their models part, and whether one has all those of the other."""

from countsworn.changes import both
from countsworn.compiler import BOUNDLESS, compile_sheet
from countsworn.flows import closed_flow
from countsworn.policy import USUAL


def flow_of(formula):
    """The flow of a formula whose sums are numbers of models."""
    return closed_flow(compile_sheet(formula, USUAL, fuel=BOUNDLESS), ())


class Pair:
    """Two formulas, and what is a model of one of them alone."""

    def __init__(self, first, second):
        self.first = flow_of(first)
        self.second = flow_of(second)
        self.common = flow_of(both(first, second))

    def apart(self):
        """How many fillings that have the given literals are models of one of both alone."""
        return self.first.total() + self.second.total() - 2 * self.common.total()

    def give(self, literal):
        """Looks only at what has a literal, from now on."""
        for flow in (self.first, self.second, self.common):
            flow.give(literal)

    def take_back(self):
        """Takes the literal back that was given last."""
        for flow in (self.first, self.second, self.common):
            flow.take_back()


def parting(first, second):
    """The least filling of the shown variables that is a model of one formula alone, or None."""
    pair = Pair(first, second)
    if pair.apart() == 0:
        return None
    filling = []
    for variable in first[0]:
        literal = -variable
        pair.give(literal)
        if pair.apart() == 0:
            literal = variable
            pair.take_back()
            pair.give(literal)
        filling.append(literal)
    return tuple(filling)


def implies(first, second):
    """Whether each model of the first formula is one of the second."""
    return flow_of(both(first, second)).total() == flow_of(first).total()
