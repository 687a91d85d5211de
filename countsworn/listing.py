"""Sheets as text, a line for each node."""

from countsworn.clauses import is_clause, residue_of, residue_with, under
from countsworn.errors import PackError
from countsworn.numerals import read_number
from countsworn.residues import parts_of
from countsworn.sheets import children_of
from countsworn.text import read_literal, read_variable


def show_clause(clause):
    """The text of a clause."""
    return "[" + " ".join([str(literal) for literal in clause]) + "]"


def shown_items(nodes, rule):
    """The list of the texts of the items of a rule."""
    word = rule[0]
    children = [f"@{child}" for child in children_of(rule)]
    if word == "refuted":
        return [show_clause(row) for row in rule[1]]
    if word == "some":
        return [str(literal) for literal in rule[1]]
    if word == "unit" or word == "choice":
        return [str(rule[1])] + children
    if word == "more":
        return [show_clause(rule[1])] + children
    if word == "less":
        # The rule itself does not say what stays.
        return children + [show_clause(clause) for clause in nodes[rule[1]][0]]
    return children


def show_sheet(sheet):
    """The text of a sheet."""
    nodes = sheet[1]
    lines = []
    for number, (_, rule) in enumerate(nodes):
        lines.append(" ".join([f"{number}:", rule[0]] + shown_items(nodes, rule)) + "\n")
    return "".join(lines)


class Line:
    """A line of a listing, read word by word; what is not of the form raises PackError with the line's number."""

    def __init__(self, at, number, text):
        self.at = at
        self.number = number
        self.words = [word for word in text.split(" ") if word != ""]
        self.place = 0
        # Blanks may stand between words and behind the last one, not ahead of the first.
        if text.startswith(" ") or self.word() != f"{number}:":
            raise PackError(at)

    def is_done(self):
        """Whether all words have been read."""
        return self.place == len(self.words)

    def word(self):
        """The next word."""
        if self.is_done():
            raise PackError(self.at)
        self.place += 1
        return self.words[self.place - 1]

    def variable(self):
        """The variable that stands next."""
        found = read_variable(self.word())
        if found is None:
            raise PackError(self.at)
        return found

    def literal(self):
        """The literal that stands next."""
        found = read_literal(self.word())
        if found is None:
            raise PackError(self.at)
        return found

    def literals_left(self):
        """The literals that stand from here on."""
        found = []
        while not self.is_done():
            found.append(self.literal())
        return tuple(found)

    def child(self):
        """The child that stands next."""
        word = self.word()
        found = read_number(word.removeprefix("@"))
        if not word.startswith("@") or found is None or found >= self.number:
            raise PackError(self.at)
        return found

    def children_left(self):
        """The children that stand from here on."""
        found = []
        while not self.is_done():
            found.append(self.child())
        return tuple(found)

    def clause(self):
        """The clause that stands next."""
        text = self.word()
        while not text.endswith("]"):
            text = text + " " + self.word()
        inner = text.removeprefix("[").removesuffix("]")
        found = tuple([read_literal(item) for item in inner.split(" ")]) if inner != "" else ()
        if not text.startswith("[") or not is_clause(found):
            raise PackError(self.at)
        return found

    def clauses_left(self):
        """The clauses that stand from here on."""
        found = []
        while not self.is_done():
            found.append(self.clause())
        return tuple(found)

    def rule(self):
        """The rule that stands next."""
        word = self.word()
        if word == "yes" or word == "no" or word == "open":
            return (word,)
        if word == "refuted":
            return (word, self.clauses_left())
        if word == "some":
            return (word, self.literals_left())
        if word == "unit":
            return (word, self.literal(), self.child())
        if word == "choice":
            return (word, self.variable(), self.child(), self.child())
        if word == "parts":
            return (word, self.children_left())
        if word == "more":
            return (word, self.clause(), self.child())
        if word == "less":
            return (word, self.child())
        raise PackError(self.at)


def read_rules(text):
    """The list of the rules of a text, each with the clauses that stay in its child if it is less."""
    found = []
    for at, row in enumerate(text.split("\n"), start=1):
        if row.strip(" ") != "":
            line = Line(at, len(found), row)
            rule = line.rule()
            stay = line.clauses_left() if rule[0] == "less" else ()
            if not line.is_done():
                raise PackError(at)
            found.append((rule, stay))
    return found


def said_residues(residue, rule, stay):
    """The list of the residues that a rule says of its children, one after the other."""
    word = rule[0]
    if word == "unit":
        return [under(residue, rule[1])]
    if word == "choice":
        return [under(residue, rule[1]), under(residue, -rule[1])]
    if word == "more":
        return [residue_with(residue, rule[1])]
    if word == "parts" and () not in residue:
        return parts_of(residue)
    # Something always stays, so that less without clauses says nothing.
    if word == "less" and stay != ():
        return [residue_of(stay)]
    return []


def read_sheet(formula, text):
    """The sheet of a formula of which this is the text."""
    rules = read_rules(text)
    residues = [None] * len(rules)
    if rules == []:
        raise PackError(0)
    residues[-1] = formula[2]
    # Children have lesser numbers, so all that leads to a node was looked at when its turn comes.
    for number in range(len(rules) - 1, -1, -1):
        rule, stay = rules[number]
        if residues[number] is None:
            raise PackError(0)
        said = said_residues(residues[number], rule, stay)
        children = children_of(rule)
        if len(said) != len(children):
            raise PackError(0)
        for child, residue in zip(children, said):
            if residues[child] is not None and residues[child] != residue:
                raise PackError(0)
            residues[child] = residue
    return (formula, tuple([(residues[number], rule) for number, (rule, _) in enumerate(rules)]))
