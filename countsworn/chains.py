"""Chains of clauses that follow by units."""

from countsworn.board import Board
from countsworn.clauses import is_clause


def is_kept(board, clause):
    """Whether the opposites of a clause's literals, and then the units, lead to the empty clause on a board.

    The board's own units may be given already: which clauses follow does not depend on the order of what is given.
    """
    if board.broken > 0:
        return True
    many = len(board.trail)
    found = any(board.has(literal) for literal in clause)
    if not found:
        for literal in clause:
            if not board.has(-literal):
                board.give(-literal)
        board.give_units()
        found = board.broken > 0
        board.take_back(many)
    return found


def follows(residue, clause):
    """Whether a clause follows by units from a residue."""
    return is_kept(Board(residue), clause)


def refutes(residue, rows):
    """Whether rows are a chain from a residue to the empty clause."""
    if not isinstance(rows, tuple) or not all(is_clause(row) for row in rows):
        return False
    if len(rows) == 0 or rows[-1] != ():
        return False
    board = Board(residue)
    board.give_units()
    entered = []
    for row in rows:
        if not is_kept(board, row):
            return False
        # Rows that begin with this one tell nothing beside it; without them long chains stay quick.
        while entered and entered[-1][:len(row)] == row:
            entered.pop()
            board.drop_last()
        entered.append(row)
        board.enter(row)
        board.give_units()
    return True
