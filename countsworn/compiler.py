"""The compiler: from a formula to a sheet."""

from countsworn.board import Board
from countsworn.chains import is_kept
from countsworn.clauses import residue_with, under
from countsworn.errors import PolicyError
from countsworn.policy import chosen, is_policy
from countsworn.residues import lessened, parts_of, shown_of
from countsworn.search import searched
from countsworn.sheets import trimmed

# More fuel than any run could use.
BOUNDLESS = 10 ** 60


class Draft:
    """A node whose children are being made: the beginning of its rule, their residues, and the numbers made so far."""

    def __init__(self, residue, head, rests):
        self.residue = residue
        self.head = head
        self.rests = rests
        self.numbers = []

    def rule(self):
        """The rule, when all children have their numbers."""
        if self.head == ("parts",):
            return ("parts", tuple(self.numbers))
        return self.head + tuple(self.numbers)


class Maker:
    """Makes nodes for the residues of formulas with the same shown variables; children come ahead of what has them."""

    def __init__(self, formula, policy, fuel):
        if not is_policy(policy):
            raise PolicyError("this is no policy")
        self.formula = formula
        self.policy = policy
        self.fuel = fuel
        self.nodes = []
        self.known = {}

    def draft_of(self, residue):
        """The draft of the node of a residue, by the first rule that fits."""
        _, has_parts, _, has_less, _ = self.policy
        if residue[:1] == ((),):
            return Draft(residue, ("no",), [])
        if residue == ():
            return Draft(residue, ("yes",), [])
        for clause in residue:
            if len(clause) == 1:
                return Draft(residue, ("unit", clause[0]), [under(residue, clause[0])])
        if has_less:
            rest = lessened(residue)
            if len(rest) < len(residue):
                return Draft(residue, ("less",), [rest])
        if shown_of(self.formula, residue) == ():
            return self.searched_draft(residue)
        if has_parts:
            parts = parts_of(residue)
            if len(parts) > 1:
                return Draft(residue, ("parts",), parts)
        return self.deciding_draft(residue)

    def searched_draft(self, residue):
        """The draft of the node of a residue without shown variables."""
        answer, many = searched(residue, self.fuel)
        self.fuel -= many
        return Draft(residue, answer, [])

    def deciding_draft(self, residue):
        """The draft of the node of a residue in which a variable must be decided."""
        variable = chosen(self.formula, self.policy, residue)
        if self.policy[4]:
            board = Board(residue)
            for clause in ((-variable,), (variable,)):
                if is_kept(board, clause):
                    return Draft(residue, ("more", clause), [residue_with(residue, clause)])
        if self.fuel == 0:
            return Draft(residue, ("open",), [])
        self.fuel -= 1
        return Draft(residue, ("choice", variable), [under(residue, variable), under(residue, -variable)])

    def is_made(self, residue):
        """Whether a residue has a node that is to be used again."""
        return self.policy[2] and residue in self.known

    def add(self, draft):
        """The number of the node of a draft, which is added."""
        number = len(self.nodes)
        self.nodes.append((draft.residue, draft.rule()))
        if self.policy[2]:
            self.known[draft.residue] = number
        return number

    def make(self, residue):
        """The number of the node of a residue, which is made with all that is below it, if it is not there."""
        # The drafts that wait for children stand in a list, so that deep sheets lead to no deep calls.
        outer = Draft((), (), [residue])
        drafts = [outer]
        while outer.numbers == []:
            draft = drafts[-1]
            if len(draft.numbers) == len(draft.rests):
                drafts.pop()
                drafts[-1].numbers.append(self.add(draft))
            elif self.is_made(draft.rests[len(draft.numbers)]):
                draft.numbers.append(self.known[draft.rests[len(draft.numbers)]])
            else:
                drafts.append(self.draft_of(draft.rests[len(draft.numbers)]))
        return outer.numbers[0]

    def sheet_of(self, formula):
        """A sheet of a formula with the same shown variables, of the nodes that its root reaches."""
        root = self.make(formula[2])
        return trimmed((formula, tuple(self.nodes[:root + 1])))


def compile_sheet(formula, policy, *, fuel=100000):
    """A sheet of a formula, made as a policy says, with at most so many decisions."""
    return Maker(formula, policy, fuel).sheet_of(formula)


def decisions(formula, policy):
    """The least fuel with which the sheet of a formula has no open node."""
    maker = Maker(formula, policy, BOUNDLESS)
    maker.make(formula[2])
    return BOUNDLESS - maker.fuel
