"""Policies: the order in which variables are chosen, and what else the compiler does."""

from countsworn.clauses import is_variable
from countsworn.residues import shown_of

PLAIN = (("least",), False, False, False, False)
USUAL = (("most",), True, True, True, True)


def is_row(value):
    """Whether any value is a tuple of different variables."""
    if not isinstance(value, tuple) or not all(is_variable(item) for item in value):
        return False
    return len({variable: True for variable in value}) == len(value)


def is_order(value):
    """Whether any value is an order of choices."""
    if not isinstance(value, tuple) or len(value) == 0 or not isinstance(value[0], str):
        return False
    if value[0] == "row":
        return len(value) == 2 and is_row(value[1])
    return value == ("least",) or value == ("most",)


def is_policy(value):
    """Whether any value is a policy."""
    if not isinstance(value, tuple) or len(value) != 5:
        return False
    order, *rest = value
    return is_order(order) and all(item is True or item is False for item in rest)


def with_cache(policy):
    """The policy with its cache taken as True."""
    order, has_parts, _, has_less, has_probe = policy
    return (order, has_parts, True, has_less, has_probe)


def most_used(residue, variables):
    """The variable, of several ascending ones, that is in the most clauses; the least of several such."""
    counts = {variable: 0 for variable in variables}
    for clause in residue:
        for literal in clause:
            if abs(literal) in counts:
                counts[abs(literal)] += 1
    found = variables[0]
    for variable in variables:
        if counts[variable] > counts[found]:
            found = variable
    return found


def chosen(formula, policy, residue):
    """The shown variable of a residue that the order of a policy picks."""
    order = policy[0]
    variables = shown_of(formula, residue)
    if order[0] == "most":
        return most_used(residue, variables)
    if order[0] == "row":
        own = {variable: True for variable in variables}
        for variable in order[1]:
            if variable in own:
                return variable
    return variables[0]
