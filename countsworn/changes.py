"""Changes: what becomes of a sheet to which literals are given, and formulas made of others."""

from countsworn.clauses import clause_of, clause_under, given_by, residue_of, residue_with, under_all, variables_of
from countsworn.compiler import BOUNDLESS, compile_sheet
from countsworn.errors import ChangeError
from countsworn.policy import USUAL
from countsworn.sheets import children_of, renumbered


class Turning:
    """The nodes of a sheet, turned by given literals.

    What a node becomes is told by a rule with the old numbers of children, or by ("same", a) for what its child a
    becomes, or by ("anew",) for what the compiler makes of its residue.
    """

    def __init__(self, sheet, literals):
        formula, nodes = sheet
        self.literals = literals
        self.given = given_by(literals)
        shown = tuple([variable for variable in formula[0] if not self.has(variable)])
        self.formula = (shown, formula[1], under_all(formula[2], literals))
        self.old = nodes
        self.rests = {}
        self.nodes = []

    def has(self, variable):
        """Whether a literal of a variable is given."""
        return variable in self.given or -variable in self.given

    def rest_of(self, number):
        """What is left of the residue of an old node."""
        if number not in self.rests:
            self.rests[number] = under_all(self.old[number][0], self.literals)
        return self.rests[number]

    def turned(self, number):
        """What an old node becomes."""
        rest = self.rest_of(number)
        rule = self.old[number][1]
        if () in rest:
            return ("no",)
        if rest == ():
            return ("yes",)
        if rule[0] == "choice" or rule[0] == "unit":
            return self.turned_decision(rest, rule)
        if rule[0] == "parts":
            return self.turned_parts(rule)
        if rule[0] == "more":
            return self.turned_more(rest, rule)
        if rule[0] == "less" and self.rest_of(rule[1]) == rest:
            return ("same", rule[1])
        if rule[0] == "refuted":
            return ("refuted", self.rows_under(rule[1]))
        return rule

    def turned_decision(self, rest, rule):
        """What a choice or a unit becomes."""
        variable = abs(rule[1])
        if self.has(variable):
            # A unit whose opposite is given was no already, so its only child is the one.
            return ("same", rule[2] if variable in self.given else rule[-1])
        if rule[0] == "choice" and variable not in variables_of(rest):
            return ("same", rule[2])
        return rule

    def turned_parts(self, rule):
        """What parts become."""
        kept = tuple([child for child in rule[1] if self.rest_of(child) != ()])
        return ("same", kept[0]) if len(kept) == 1 else ("parts", kept)

    def turned_more(self, rest, rule):
        """What more becomes."""
        clause = clause_under(rule[1], self.given)
        if clause is None or clause in rest:
            return ("same", rule[2])
        own = {variable: True for variable in variables_of(rest)}
        if not all(abs(literal) in own for literal in clause):
            return ("anew",)
        return ("more", clause, rule[2])

    def rows_under(self, rows):
        """The rows given the literals, without those that have one of them."""
        found = [clause_under(row, self.given) for row in rows]
        return tuple([row for row in found if row is not None])

    def turned_rules(self):
        """A dict of what the old nodes become that the root's new node leads to."""
        rules = {len(self.old) - 1: ()}
        # Children have lesser numbers, so all that leads to a node was looked at when its turn comes.
        for number in range(len(self.old) - 1, -1, -1):
            if number in rules:
                rule = self.turned(number)
                rules[number] = rule
                children = (rule[1],) if rule[0] == "same" else children_of(rule)
                for child in children:
                    rules[child] = ()
        return rules

    def add(self, residue, rule):
        """The number of a new node, which is added."""
        self.nodes.append((residue, rule))
        return len(self.nodes) - 1

    def make_anew(self, rest):
        """The number of the last one of the nodes that the compiler makes, which are added."""
        made = compile_sheet((self.formula[0], self.formula[1], rest), USUAL, fuel=BOUNDLESS)[1]
        numbers = [len(self.nodes) + number for number in range(len(made))]
        for residue, rule in made:
            self.add(residue, renumbered(rule, numbers))
        return numbers[-1]

    def turned_sheet(self):
        """The sheet of what the root becomes."""
        rules = self.turned_rules()
        numbers = {}
        for number in sorted(list(rules)):
            rule = rules[number]
            if rule[0] == "same":
                numbers[number] = numbers[rule[1]]
            elif rule[0] == "anew":
                numbers[number] = self.make_anew(self.rest_of(number))
            else:
                numbers[number] = self.add(self.rest_of(number), renumbered(rule, numbers))
        # Only what the root leads to was turned, so that it comes last and there is nothing to trim.
        return (self.formula, tuple(self.nodes))


def condition(sheet, literals):
    """The sheet that a sheet becomes if literals of shown variables are given."""
    return Turning(sheet, literals).turned_sheet()


def hide(formula, variables):
    """The formula with shown variables made hidden."""
    shown, hidden, residue = formula
    gone = {variable: True for variable in variables}
    left = tuple([variable for variable in shown if variable not in gone])
    return (left, tuple(sorted(list(hidden) + list(gone))), residue)


def new_names(first, second):
    """A dict of the hidden variables of the second formula and the variables that take their place beside the first."""
    taken = {variable: True for variable in first[0] + first[1]}
    names = {}
    last = 0
    for variable in second[1]:
        last += 1
        while last in taken:
            last += 1
        names[variable] = last
    return names


def renamed(clause, names):
    """The clause with other variables in the place of some."""
    literals = []
    for literal in clause:
        name = names.get(abs(literal), abs(literal))
        literals.append(name if literal > 0 else -name)
    return clause_of(literals)


def both(first, second):
    """The formula whose models are those of both formulas, which have the same shown variables."""
    shown, hidden, residue = first
    names = new_names(first, second)
    clauses = list(residue) + [renamed(clause, names) for clause in second[2]]
    return (shown, tuple(sorted(list(hidden) + list(names.values()))), residue_of(clauses))


def with_clause(formula, clause):
    """The formula with a clause more."""
    shown, hidden, residue = formula
    known = {variable: True for variable in shown + hidden}
    if clause in residue:
        raise ChangeError("the clause is there already")
    if not all(abs(literal) in known for literal in clause):
        raise ChangeError("the clause has an unknown variable")
    return (shown, hidden, residue_with(residue, clause))


def without_clause(formula, clause):
    """The formula with a clause less."""
    shown, hidden, residue = formula
    if clause not in residue:
        raise ChangeError("the clause is not there")
    return (shown, hidden, tuple([other for other in residue if other != clause]))
