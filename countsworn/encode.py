"""Expressions to clauses."""

from countsworn.clauses import clause_of, residue_of
from countsworn.expressions import parts_in


def opposite(part):
    """The opposite of a literal; True and False stand for yes and no where these have no literal."""
    if isinstance(part, bool):
        return not part
    return -part


class Encoding:
    """The clauses and hidden variables that define the literals of parts."""

    def __init__(self, shown):
        self.shown = {variable: True for variable in shown}
        self.last = 0
        self.hidden = []
        self.clauses = []
        self.numbers = {}
        self.literals = []

    def fresh(self):
        """The next hidden variable."""
        self.last += 1
        while self.last in self.shown:
            self.last += 1
        self.hidden.append(self.last)
        return self.last

    def number_part(self, expression):
        """The number of a part, by which its literal is found; equal parts have the same one."""
        numbers = [self.number_part(part) for part in parts_in(expression)]
        # Numbers stand for the parts here, because a key must not be nested as deep as an expression.
        key = (expression[0], *numbers)
        if expression[0] == "var" or expression[0] == "atmost":
            key = (expression[0], expression[1], *numbers)
        if key not in self.numbers:
            self.numbers[key] = len(self.literals)
            self.literals.append(self.define(expression, [self.literals[number] for number in numbers]))
        return self.numbers[key]

    def literal_of(self, expression):
        """The literal of a part."""
        number = self.number_part(expression)
        return self.literals[number]

    def define(self, expression, parts):
        """A literal for an expression whose parts have these literals, defined by clauses."""
        word = expression[0]
        if word == "var":
            return expression[1]
        if word == "not":
            return -parts[0]
        if word == "atmost" and expression[1] < len(parts):
            return -self.at_least(expression[1] + 1, parts)
        literal = self.fresh()
        if word == "yes" or word == "atmost":
            self.define_and(literal, [])
        elif word == "no":
            self.define_or(literal, [])
        elif word == "and":
            self.define_and(literal, parts)
        elif word == "or":
            self.define_or(literal, parts)
        elif word == "implies":
            self.define_or(literal, [-parts[0], parts[1]])
        elif word == "xor":
            self.define_xor(literal, parts)
        elif word == "iff":
            self.define_xor(-literal, parts)
        else:
            self.define_if(literal, parts)
        return literal

    def demand(self, parts):
        """Adds the clause of these parts, unless every filling keeps it."""
        if any(part is True for part in parts):
            return
        clause = clause_of([part for part in parts if part is not False])
        if clause is not None:
            self.clauses.append(clause)

    def define_and(self, literal, parts):
        """The literal holds exactly if all the parts do."""
        for part in parts:
            self.demand([-literal, part])
        self.demand([literal] + [opposite(part) for part in parts])

    def define_or(self, literal, parts):
        """The literal holds exactly if one of the parts does: its opposite, if all their opposites do."""
        self.define_and(-literal, [opposite(part) for part in parts])

    def define_xor(self, literal, parts):
        """The literal holds exactly if one of both parts does and the other does not."""
        a, b = parts
        self.demand([-literal, a, b])
        self.demand([-literal, -a, -b])
        self.demand([literal, -a, b])
        self.demand([literal, a, -b])

    def define_if(self, literal, parts):
        """The literal holds exactly if the second part does where the first does, else the third."""
        c, a, b = parts
        self.demand([-literal, -c, a])
        self.demand([literal, -c, -a])
        self.demand([-literal, c, b])
        self.demand([literal, c, -b])

    def at_least(self, wanted, parts):
        """A literal that holds exactly if at least so many of the parts do, each one counted."""
        # before[j] tells whether at least j of the parts ahead hold.
        before = [True] + [False] * wanted
        for part in parts:
            row = [True]
            for j in range(1, wanted + 1):
                with_part = self.fresh()
                self.define_and(with_part, [before[j - 1], part])
                reached = self.fresh()
                self.define_or(reached, [before[j], with_part])
                row.append(reached)
            before = row
        return before[wanted]


def encode(expressions, shown):
    """The formula of these shown variables whose models are the fillings for which all expressions hold."""
    encoding = Encoding(shown)
    told = [encoding.literal_of(expression) for expression in expressions]
    clauses = encoding.clauses + [(literal,) for literal in told]
    return (tuple(sorted(shown)), tuple(encoding.hidden), residue_of(clauses))
