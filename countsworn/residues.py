"""Units, parts and the rest of residues."""

from countsworn.board import Board
from countsworn.clauses import residue_of, variables_of


def units(residue):
    """The ascending tuple of the units of a residue."""
    return tuple([clause[0] for clause in residue if len(clause) == 1])


def propagate(residue, literals):
    """The residue given literals and then its units, and the list of these."""
    board = Board(residue)
    for literal in literals:
        # A variable that has a literal is in no clause any more: its opposite changes nothing.
        if abs(literal) not in board.given:
            board.give(literal)
    found = board.give_units()
    if board.broken > 0:
        return (((),), found)
    return (residue_of(board.rest()), found)


def head_of(above, variable):
    """The least variable that is known to be joined with one."""
    while above[variable] != variable:
        # To skip a step for the next time keeps these ways short.
        above[variable] = above[above[variable]]
        variable = above[variable]
    return variable


def parts_of(residue):
    """The list of the residues of joined clauses, ascending by their least variable."""
    above = {variable: variable for variable in variables_of(residue)}
    for clause in residue:
        for literal in clause[1:]:
            one = head_of(above, abs(clause[0]))
            other = head_of(above, abs(literal))
            above[max(one, other)] = min(one, other)
    parts = {}
    for clause in residue:
        parts.setdefault(head_of(above, abs(clause[0])), []).append(clause)
    return [tuple(parts[head]) for head in sorted(list(parts))]


class Shelf:
    """Clauses in a tree of their literals, in which those within another clause are found."""

    def __init__(self):
        self.branches = [{}]
        self.ends = [False]

    def put_in(self, clause):
        """Adds a clause."""
        node = 0
        for literal in clause:
            if literal not in self.branches[node]:
                self.branches[node][literal] = len(self.branches)
                self.branches.append({})
                self.ends.append(False)
            node = self.branches[node][literal]
        self.ends[node] = True

    def has_within(self, clause):
        """Whether a clause is here all of whose literals are among those of this one."""
        waiting = [(0, 0)]
        while waiting:
            node, start = waiting.pop()
            if self.ends[node]:
                return True
            branches = self.branches[node]
            for at in range(start, len(clause)):
                if clause[at] in branches:
                    waiting.append((branches[clause[at]], at + 1))
        return False


def lessened(residue):
    """The residue without each clause that has another one within it."""
    shelf = Shelf()
    kept = {}
    longest = max([len(clause) for clause in residue], default=0)
    # A clause can only have a shorter one within it; one that was left out had a kept one within it.
    for clause in sorted(residue, key=len):
        if not shelf.has_within(clause):
            kept[clause] = True
            if len(clause) < longest:
                shelf.put_in(clause)
    return tuple([clause for clause in residue if clause in kept])


def shown_of(formula, residue):
    """The ascending tuple of the shown variables of a residue."""
    shown = {variable: True for variable in formula[0]}
    return tuple([variable for variable in variables_of(residue) if variable in shown])
