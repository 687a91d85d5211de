"""Formulas and their weights as text."""

from countsworn.clauses import clause_of, is_variable, literal_key, residue_of
from countsworn.errors import FormulaError
from countsworn.fractions import read_fraction, show_fraction
from countsworn.numerals import read_number


def show_line(word, numbers):
    """A line of a word and some variables or literals."""
    return " ".join([word] + [str(number) for number in numbers]) + "\n"


def show_formula(formula, weights):
    """The text of a formula and its weights."""
    shown, hidden, residue = formula
    lines = [show_line("shown", shown)]
    if hidden:
        lines.append(show_line("hidden", hidden))
    for literal, weight in weights:
        lines.append(f"weight {literal} {show_fraction(weight)}\n")
    for clause in residue:
        lines.append(show_line("clause", clause))
    return "".join(lines)


def read_variable(item):
    """The variable that an item of a line names, or None."""
    number = read_number(item)
    return number if is_variable(number) else None


def read_literal(item):
    """The literal that an item of a line names, or None."""
    variable = read_variable(item.removeprefix("-"))
    if variable is None:
        return None
    return -variable if item.startswith("-") else variable


def items_of(line):
    """The items of a line, without its remark."""
    items = []
    for item in line.split(" "):
        if item.startswith("#"):
            break
        if item != "":
            items.append(item)
    return items


class Reading:
    """What the lines of a text that were taken so far say."""

    def __init__(self):
        self.kinds = {}
        self.weights = {}
        self.clauses = []
        self.uses = []

    def take(self, at, items):
        """Takes the items of the line with this number; False if it is not allowed."""
        word, *rest = items
        if word == "shown" or word == "hidden":
            return self.take_variables(word, rest)
        if word == "weight":
            return self.take_weight(at, rest)
        if word == "clause":
            return self.take_clause(at, rest)
        return False

    def take_variables(self, kind, items):
        """Takes variables that are shown or hidden; False if one is none or was taken ahead of it."""
        for item in items:
            variable = read_variable(item)
            if variable is None or variable in self.kinds:
                return False
            self.kinds[variable] = kind
        return True

    def take_weight(self, at, items):
        """Takes the weight of a literal; False if it is none or the literal has one."""
        if len(items) != 2:
            return False
        literal = read_literal(items[0])
        weight = read_fraction(items[1])
        if literal is None or weight is None or weight[0] < 0 or literal in self.weights:
            return False
        self.weights[literal] = weight
        self.uses.append((at, abs(literal), ("shown",)))
        return True

    def take_clause(self, at, items):
        """Takes a clause; False if an item is no literal."""
        literals = [read_literal(item) for item in items]
        if None in literals:
            return False
        for literal in literals:
            self.uses.append((at, abs(literal), ("shown", "hidden")))
        clause = clause_of(literals)
        if clause is not None:
            self.clauses.append(clause)
        return True

    def variables(self, kind):
        """The ascending tuple of the variables that are shown, or hidden."""
        return tuple(sorted([variable for variable in self.kinds if self.kinds[variable] == kind]))

    def formula(self):
        """The formula that was read."""
        return (self.variables("shown"), self.variables("hidden"), residue_of(self.clauses))

    def all_weights(self):
        """The weights that were read."""
        return tuple([(literal, self.weights[literal]) for literal in sorted(list(self.weights), key=literal_key)])


def read_formula(text):
    """The formula and the weights of a text."""
    reading = Reading()
    for at, line in enumerate(text.split("\n"), start=1):
        items = items_of(line)
        if items and not reading.take(at, items):
            raise FormulaError(at)
    # A later line may show or hide a variable, so this can be looked at only now.
    for at, variable, allowed in reading.uses:
        if reading.kinds.get(variable) not in allowed:
            raise FormulaError(at)
    return (reading.formula(), reading.all_weights())
