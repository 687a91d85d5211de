"""Literals, clauses, residues, formulas and weights."""

from countsworn.fractions import is_fraction
from countsworn.numerals import is_whole

_GREATEST_VARIABLE = 999


def literal_key(literal):
    """A tuple by which literals ascend: by their variable, -v ahead of v."""
    return (abs(literal), 1 if literal > 0 else 0)


def clause_key(clause):
    """A tuple by which clauses ascend: the keys of its literals."""
    return tuple([literal_key(literal) for literal in clause])


def ascends(keys):
    """Whether each item of a list is greater than the one ahead of it."""
    return all(keys[at - 1] < keys[at] for at in range(1, len(keys)))


def clause_of(literals):
    """The clause of a list of literals, or None if a variable stands there with both signs."""
    once = {literal: True for literal in literals}
    if any(-literal in once for literal in literals):
        return None
    return tuple(sorted(list(once), key=literal_key))


def residue_of(clauses):
    """The residue of a list of clauses."""
    once = {clause: True for clause in clauses}
    return tuple(sorted(list(once), key=clause_key))


def variables_of(residue):
    """The ascending tuple of the variables of a residue."""
    return tuple(sorted({abs(literal) for clause in residue for literal in clause}))


def place_of(clause, rows):
    """How many clauses of an ascending list are ahead of a clause."""
    key = clause_key(clause)
    low = 0
    high = len(rows)
    while low < high:
        middle = (low + high) // 2
        if clause_key(rows[middle]) < key:
            low = middle + 1
        else:
            high = middle
    return low


def merged(rows, clauses):
    """The ascending list of the clauses of an ascending list and of some others, each once."""
    found = list(rows)
    # Where the others are few, to put them in is less work than to sort all anew.
    for clause in clauses:
        at = place_of(clause, found)
        if at == len(found) or found[at] != clause:
            found.insert(at, clause)
    return found


def residue_with(residue, clause):
    """The residue with a clause, which may be in it already."""
    return tuple(merged(residue, [clause]))


def under(residue, literal):
    """The residue without the clauses that have the literal, its opposite taken out of the others."""
    kept = [clause for clause in residue if literal not in clause and -literal not in clause]
    shorter = []
    for clause in residue:
        if -literal in clause:
            shorter.append(tuple([other for other in clause if other != -literal]))
    return tuple(merged(kept, shorter))


def clause_under(clause, given):
    """What is left of a clause, given a dict of literals: None if it has one of them."""
    for literal in clause:
        if literal in given:
            return None
    return tuple([literal for literal in clause if -literal not in given])


def given_by(literals):
    """A dict of the literals of a list that change something if they are given in order."""
    given = {}
    for literal in literals:
        # A variable that has a literal is in no clause any more: its opposite changes nothing.
        if -literal not in given:
            given[literal] = True
    return given


def under_all(residue, literals):
    """The residue under each literal of a list, in order."""
    given = given_by(literals)
    kept = []
    shorter = []
    for clause in residue:
        rest = clause_under(clause, given)
        if rest == clause:
            kept.append(clause)
        elif rest is not None:
            shorter.append(rest)
    return tuple(merged(kept, shorter))


def is_variable(value):
    """Whether any value is a variable."""
    return is_whole(value) and 1 <= value <= _GREATEST_VARIABLE


def is_literal(value):
    """Whether any value is a literal."""
    return is_whole(value) and is_variable(abs(value))


def is_clause(value):
    """Whether any value is a clause."""
    if not isinstance(value, tuple) or not all(is_literal(item) for item in value):
        return False
    return ascends([abs(literal) for literal in value])


def is_residue(value):
    """Whether any value is a residue."""
    if not isinstance(value, tuple) or not all(is_clause(item) for item in value):
        return False
    return ascends([clause_key(clause) for clause in value])


def are_variables(row):
    """Whether a tuple of any values is an ascending tuple of variables."""
    return all(is_variable(item) for item in row) and ascends(row)


def have_common(shown, hidden):
    """Whether a variable is in both of two tuples of any values."""
    # Only variables are looked up: True would be found as 1, and a list has no key.
    first = {item: True for item in shown if is_variable(item)}
    return any(is_variable(item) and item in first for item in hidden)


def are_known(residue, variables):
    """Whether all variables of a residue are among some."""
    known = {variable: True for variable in variables}
    return all(variable in known for variable in variables_of(residue))


def formula_faults(value):
    """The ascending list of the codes of what keeps any value from being a formula."""
    if not isinstance(value, tuple) or len(value) != 3 or not all(isinstance(part, tuple) for part in value):
        return ["form"]
    shown, hidden, residue = value
    faults = []
    if have_common(shown, hidden):
        faults.append("both")
    clauses = [item for item in residue if is_clause(item)]
    if len(clauses) < len(residue):
        faults.append("clause")
    elif not is_residue(residue):
        faults.append("order")
    if not are_variables(shown) or not are_variables(hidden):
        faults.append("variable")
    elif not are_known(clauses, shown + hidden):
        faults.append("unknown")
    return faults


def keeps(residue, filling):
    """Whether each clause of a residue has a literal of a filling."""
    given = {literal: True for literal in filling}
    for clause in residue:
        if not any(literal in given for literal in clause):
            return False
    return True


def weight_of(weights, literal):
    """The weight of a literal: 1 if the weights have none for it."""
    for own, weight in weights:
        if own == literal:
            return weight
    return (1, 1)


def is_weight(value):
    """Whether any value is a pair of a literal and a fraction that is not below 0."""
    if not isinstance(value, tuple) or len(value) != 2:
        return False
    literal, weight = value
    return is_literal(literal) and is_fraction(weight) and weight[0] >= 0


def are_weights(formula, value):
    """Whether any value is of the form of weights for a formula."""
    if not isinstance(value, tuple) or not all(is_weight(item) for item in value):
        return False
    shown = {variable: True for variable in formula[0]}
    if not all(abs(literal) in shown for literal, _ in value):
        return False
    return ascends([literal_key(literal) for literal, _ in value])
