"""The models of a formula in ascending order, read from a sheet."""

from countsworn.errors import NoFilling
from countsworn.flows import closed_flow


def model_count(sheet):
    """The number of models."""
    return closed_flow(sheet, ()).total()


def filling_at(flow, n, d):
    """The model at the point n/d of a line on which the models lie, ascending, each as long as its weight."""
    filling = []
    for variable in flow.scale.shown:
        flow.give(-variable)
        ahead = flow.total() * d
        if n < ahead:
            filling.append(-variable)
        else:
            n = n - ahead
            flow.take_back()
            flow.give(variable)
            filling.append(variable)
    return tuple(filling)


def model_at(sheet, k):
    """The model with the number k, counted from 0."""
    flow = closed_flow(sheet, ())
    if not 0 <= k < flow.total():
        raise NoFilling(f"no model has the number {k}")
    return filling_at(flow, k, 1)


def number_of(sheet, filling):
    """The number of a filling among the models, or -1 if it is none."""
    flow = closed_flow(sheet, ())
    number = 0
    for literal in filling:
        if literal > 0:
            flow.give(-literal)
            number += flow.total()
            flow.take_back()
        flow.give(literal)
    return number if flow.total() > 0 else -1


def complete(flow, filling):
    """The least model that begins with the given literals of a filling, of which there is one."""
    found = list(filling)
    for variable in flow.scale.shown[len(filling):]:
        flow.give(-variable)
        if flow.total() > 0:
            found.append(-variable)
        else:
            flow.take_back()
            flow.give(variable)
            found.append(variable)
    return found


def beginning_behind(flow, filling):
    """The shortest beginning of the model behind a filling that is not one of the filling itself, or None."""
    found = list(filling)
    while found:
        literal = found.pop()
        flow.take_back()
        if literal < 0:
            flow.give(-literal)
            if flow.total() > 0:
                return found + [-literal]
            flow.take_back()
    return None


def models(sheet):
    """All models, ascending."""
    flow = closed_flow(sheet, ())
    beginning = [] if flow.total() > 0 else None
    while beginning is not None:
        filling = complete(flow, beginning)
        yield tuple(filling)
        beginning = beginning_behind(flow, filling)


def draw_at(sheet, weights, share):
    """The model at a share of the line on which the models lie, ascending, each as long as its weight."""
    flow = closed_flow(sheet, weights)
    if flow.total() == 0:
        raise NoFilling("the sum is 0")
    return filling_at(flow, share[0] * flow.total(), share[1])
