"""The models of the greatest weights, read from a sheet."""

from countsworn.errors import NoFilling
from countsworn.flows import closed_flow
from countsworn.order import models

# In this file a row is an ascending list of pairs (-weight, bits) for fillings of the same variables: the weight is
# a whole number above 0, and the bits are those of the variables that are held.


def joined(first, second, count):
    """The row of the first so many fillings that are made of one of each of two rows, without a common variable."""
    found = []
    for at, (weight, bits) in enumerate(first):
        # Ahead of what is made of two fillings stands what is made of any that are ahead of these.
        for other, more in second[:count // (at + 1)]:
            found.append((-(weight * other), bits | more))
    return sorted(found)[:count]


def free_row(scale, variable):
    """The row of both literals of a variable."""
    pairs = [(-scale.whole[-variable], 0), (-scale.whole[variable], scale.bits[variable])]
    return sorted([pair for pair in pairs if pair[0] < 0])


def way_row(flow, way, rows, count):
    """The row of the first so many fillings of a way, from the rows of the nodes ahead."""
    _, literal, gone, children = way
    scale = flow.scale
    # A hidden literal, or none, weighs 1 and has no bit.
    weight = scale.whole.get(literal, 1)
    found = [(-weight, scale.bits.get(literal, 0))] if weight > 0 else []
    for child in children:
        found = joined(found, rows[child], count)
    for variable in scale.shown_in(gone):
        found = joined(found, free_row(scale, variable), count)
    return found


def heavy_row(flow, count):
    """The row of the first so many models whose weight is above 0."""
    rows = []
    for ways in flow.ways:
        found = []
        for way in ways:
            found = found + way_row(flow, way, rows, count)
        rows.append(sorted(found)[:count])
    return rows[-1]


def light_models(sheet, heavy, count):
    """The list of the first so many models that are not among the heavy ones."""
    found = []
    if count > 0:
        for filling in models(sheet):
            if filling not in heavy:
                found.append(filling)
            if len(found) == count:
                break
    return found


def best_rows(sheet, weights, count):
    """The list of the first so many models with their weights, descending by weight, then ascending."""
    flow = closed_flow(sheet, weights)
    scale = flow.scale
    found = []
    heavy = {}
    for weight, bits in heavy_row(flow, count):
        filling = scale.filling_of(bits)
        heavy[filling] = True
        found.append((scale.fraction_of(-weight, scale.everything()), filling))
    # If there are too few, all those whose weight is above 0 have been found.
    for filling in light_models(sheet, heavy, count - len(found)):
        found.append(((0, 1), filling))
    return found


def best(sheet, weights):
    """The greatest weight of a model, and the least model that has it."""
    found = best_rows(sheet, weights, 1)
    if found == []:
        raise NoFilling("there is no model")
    return found[0]
