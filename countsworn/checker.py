"""The checker: whether any value is a sheet of a formula whose nodes are all as they must be."""

from countsworn.chains import follows, refutes
from countsworn.clauses import clause_key, formula_faults, is_clause, is_literal, is_residue, keeps
from countsworn.clauses import residue_with, under, variables_of
from countsworn.numerals import is_whole
from countsworn.residues import Shelf
from countsworn.sheets import children_of

# What stands behind the word of each rule.
_ITEMS = {
    "yes": (), "no": (), "open": (), "refuted": ("clauses",), "some": ("literals",), "unit": ("literal", "child"),
    "choice": ("literal", "child", "child"), "parts": ("children",), "more": ("clause", "child"), "less": ("child",),
}


def is_child(value, number):
    """Whether any value is the number of a node ahead of the one with this number."""
    return is_whole(value) and 0 <= value < number


def is_of_kind(value, kind, number):
    """Whether any value is an item of a kind in a rule of the node with this number."""
    if kind == "literal":
        return is_literal(value)
    if kind == "clause":
        return is_clause(value)
    if kind == "child":
        return is_child(value, number)
    if not isinstance(value, tuple):
        return False
    if kind == "literals":
        return all(is_literal(item) for item in value)
    if kind == "clauses":
        return all(is_clause(item) for item in value)
    return all(is_child(item, number) for item in value)


def has_form(rule, number):
    """Whether any value has the form of a rule of the node with this number."""
    if not isinstance(rule, tuple) or len(rule) == 0 or not isinstance(rule[0], str):
        return False
    word, *items = rule
    if word not in _ITEMS or len(_ITEMS[word]) != len(items):
        return False
    return all([is_of_kind(item, kind, number) for item, kind in zip(items, _ITEMS[word])])


def is_lessened(residue, rest):
    """Whether the rest is a proper part of a residue with a clause of it within each clause that is left out."""
    own = {clause: True for clause in residue}
    stay = {clause: True for clause in rest}
    if len(rest) >= len(residue) or not all(clause in own for clause in rest):
        return False
    shelf = Shelf()
    for clause in rest:
        shelf.put_in(clause)
    return all(clause in stay or shelf.has_within(clause) for clause in residue)


def are_parts(residue, parts):
    """Whether several residues, with no variable in two of them, are together a residue without the empty clause."""
    if len(parts) < 2 or () in parts or () in residue:
        return False
    if sum([len(part) for part in parts]) != len(residue):
        return False
    own = {clause: True for clause in residue}
    seen = {}
    for part in parts:
        variables = variables_of(part)
        if any(variable in seen for variable in variables) or not all(clause in own for clause in part):
            return False
        for variable in variables:
            seen[variable] = True
    return True


def are_whole(values):
    """Whether all of some values are integers."""
    for value in values:
        if type(value) is not int:
            return False
    return True


class Checking:
    """Looks at the nodes of a sheet of a formula, one after the other."""

    def __init__(self, formula, nodes):
        self.shown = {variable: True for variable in formula[0]}
        self.nodes = nodes
        # The keys of the clauses that were looked at: most clauses stand in many residues.
        self.known = {}

    def is_known_residue(self, value):
        """Whether any value is a residue."""
        if not isinstance(value, tuple):
            return False
        last = None
        for clause in value:
            # True is found as 1, so it must be told apart from it ahead of looking up.
            if not isinstance(clause, tuple) or not are_whole(clause):
                return False
            key = self.known.get(clause)
            if key is None:
                if not is_clause(clause):
                    return False
                key = clause_key(clause)
                self.known[clause] = key
            if last is not None and key <= last:
                return False
            last = key
        return True

    def fits(self, number):
        """Whether a node, whose residue and rule have the form, is as its word says."""
        residue, rule = self.nodes[number]
        word = rule[0]
        if word == "yes":
            return residue == ()
        if word == "no":
            return () in residue
        if word == "refuted":
            return refutes(residue, rule[1])
        if word == "some":
            return self.fits_some(residue, rule[1])
        return word == "open" or self.fits_children(residue, rule)

    def fits_some(self, residue, filling):
        """Whether a filling of hidden variables keeps a residue."""
        variables = variables_of(residue)
        if any(variable in self.shown for variable in variables):
            return False
        return tuple([abs(literal) for literal in filling]) == variables and keeps(residue, filling)

    def fits_children(self, residue, rule):
        """Whether the children of a rule have the residues that they must have."""
        word = rule[0]
        children = children_of(rule)
        rests = [self.nodes[child][0] for child in children]
        if word == "unit":
            return (rule[1],) in residue and rests[0] == under(residue, rule[1])
        if word == "choice":
            return self.fits_choice(residue, rule[1], rests)
        if word == "parts":
            return len(set(children)) == len(children) and are_parts(residue, rests)
        if word == "more":
            return self.fits_more(residue, rule[1], rests[0])
        return is_lessened(residue, rests[0])

    def fits_choice(self, residue, variable, rests):
        """Whether a shown variable is in a residue, and the rests are what is left under both its literals."""
        if variable not in self.shown or variable not in variables_of(residue):
            return False
        return rests == [under(residue, variable), under(residue, -variable)]

    def fits_more(self, residue, clause, rest):
        """Whether a clause that a residue has not follows from it, and the rest is both together."""
        own = {variable: True for variable in variables_of(residue)}
        if clause in residue or not all(abs(literal) in own for literal in clause):
            return False
        return rest == residue_with(residue, clause) and follows(residue, clause)


def is_frame(formula, value):
    """Whether any value is a pair of a formula and a tuple of pairs, the last one with the residue of the formula."""
    if not isinstance(value, tuple) or len(value) != 2 or not isinstance(value[1], tuple) or len(value[1]) == 0:
        return False
    own, nodes = value
    if not all(isinstance(node, tuple) and len(node) == 2 for node in nodes):
        return False
    # True equals 1: what equals a formula or a residue is the same only if it is one itself.
    if own != formula or formula_faults(own) != []:
        return False
    return nodes[-1][0] == formula[2] and is_residue(nodes[-1][0])


def refusal(formula, value):
    """None if any value is a sheet of a formula as it must be, else the number of what is refused first and a word."""
    if not is_frame(formula, value):
        return (-1, "form")
    nodes = value[1]
    checking = Checking(formula, nodes)
    for number, (residue, rule) in enumerate(nodes):
        if not checking.is_known_residue(residue):
            return (number, "residue")
        if not has_form(rule, number):
            return (number, "rule")
        if not checking.fits(number):
            return (number, rule[0])
    return None


def check(formula, value):
    """Whether any value is a sheet of a formula whose nodes are all as they must be."""
    return refusal(formula, value) is None
