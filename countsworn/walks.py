"""Answers that are read from a sheet in one walk or two: sums, bounds, chances, what is sure and what is possible."""

from countsworn.errors import NoFilling
from countsworn.flows import Flow, closed_flow
from countsworn.fractions import over


def node_sums(sheet, weights):
    """The list of the sums of all nodes; an open one counts as 0."""
    flow = Flow(sheet, weights)
    return [flow.fraction_at(number) for number in range(len(sheet[1]))]


def bounds(sheet, weights):
    """The pair of bounds between which the sum of the formula lies."""
    flow = Flow(sheet, weights)
    low = flow.fraction_at(-1)
    flow.free_nodes([number for number, (_, rule) in enumerate(sheet[1]) if rule == ("open",)])
    return (low, flow.fraction_at(-1))


def sum_of(sheet, weights):
    """The sum of the formula."""
    return closed_flow(sheet, weights).fraction_at(-1)


def products_beside(row):
    """For each number of a row the product of all others."""
    found = []
    ahead = 1
    for number in row:
        found.append(ahead)
        ahead = ahead * number
    behind = 1
    for at in range(len(row) - 1, -1, -1):
        found[at] = found[at] * behind
        behind = behind * row[at]
    return found


def decided_sums(flow):
    """For each literal of a shown variable the sum of what decides it, on all ways from the formula down."""
    found = {literal: 0 for literal in flow.scale.whole}
    # What the sum of a node is multiplied by, on all ways that lead to it.
    above = [0] * len(flow.sums)
    above[-1] = 1
    for number in range(len(flow.sums) - 1, -1, -1):
        for factor, literal, _, children in flow.ways[number]:
            own = above[number] * factor
            if own > 0:
                beside = products_beside([flow.sums[child] for child in children])
                for child, others in zip(children, beside):
                    above[child] += own * others
                if literal in found:
                    # A way that decides a literal has one child.
                    found[literal] += own * flow.sums[children[0]]
    return found


def held_sums(flow):
    """The list of the literals of shown variables, each with the sum of the models that have it as a whole number."""
    decided = decided_sums(flow)
    found = []
    for variable in flow.scale.shown:
        # Where a variable is not decided it is free: both its literals have their share of the rest.
        rest = flow.total() - decided[-variable] - decided[variable]
        for literal in (-variable, variable):
            share = rest // flow.scale.free[variable] * flow.scale.whole[literal] if rest > 0 else 0
            found.append((literal, decided[literal] + share))
    return found


def literal_sums(sheet, weights):
    """The list of the literals of shown variables, each with the sum of the models that have it."""
    flow = closed_flow(sheet, weights)
    return [(literal, flow.scale.fraction_of(held, flow.masks[-1])) for literal, held in held_sums(flow)]


def chances(sheet, weights):
    """The list of the literals of shown variables, each with its part of the sum of the formula."""
    whole = sum_of(sheet, weights)
    if whole == (0, 1):
        raise NoFilling("the sum is 0")
    return [(literal, over(held, whole)) for literal, held in literal_sums(sheet, weights)]


def surely(sheet):
    """The ascending tuple of the literals that all models have."""
    flow = closed_flow(sheet, ())
    return tuple([literal for literal, held in held_sums(flow) if held == flow.total()])


def is_possible(sheet, literals):
    """Whether some model has all the literals of a list."""
    given = {literal: True for literal in literals}
    # What has the opposite of one of them weighs nothing.
    weights = [(-literal, (0, 1)) for literal in given]
    return closed_flow(sheet, weights).total() > 0
