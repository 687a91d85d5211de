"""The search for a filling that keeps a residue."""

from countsworn.board import Board
from countsworn.clauses import variables_of


def told_clause(decided):
    """The clause of the opposites of the decided literals."""
    # Each decision is about the least variable that is left, so they ascend already.
    return tuple([-literal for literal, _ in decided])


def turn(board, decided, rows):
    """Goes back to the last decision that has a second way, and goes that way; False if there is none."""
    rows.append(told_clause(decided))
    while decided:
        literal, many = decided.pop()
        board.take_back(many)
        if literal > 0:
            decided.append((-literal, many))
            board.give(-literal)
            return True
        rows.append(told_clause(decided))
    return False


def least_left(board, variables, start):
    """The place of the first variable, from a place on, that is left on a board; or how many there are."""
    at = start
    while at < len(variables) and not board.is_left(variables[at]):
        at += 1
    return at


def filling_on(board, variables):
    """The filling of the literals that are given, and of -v for each other variable."""
    return tuple([variable if board.has(variable) else -variable for variable in variables])


def searched(residue, fuel):
    """The answer of a search, and how many times it decided."""
    board = Board(residue)
    variables = variables_of(residue)
    places = {variable: at for at, variable in enumerate(variables)}
    decided = []
    rows = []
    count = 0
    while True:
        board.give_units()
        if board.broken > 0:
            if not turn(board, decided, rows):
                return (("refuted", tuple(rows)), count)
        else:
            # What was not left when the last decision was made is not left now.
            start = places[abs(decided[-1][0])] if decided else 0
            at = least_left(board, variables, start)
            if at == len(variables):
                return (("some", filling_on(board, variables)), count)
            if count >= fuel:
                return (("open",), count)
            count += 1
            decided.append((variables[at], len(board.trail)))
            board.give(variables[at])


def search(residue, *, fuel=10000):
    """Looks for a filling that keeps a residue, with at most so many decisions."""
    return searched(residue, fuel)[0]
