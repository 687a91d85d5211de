"""A board: the clauses of a residue, to which literals are given and from which they are taken back."""

from heapq import heappop, heappush

from countsworn.clauses import literal_key


class Board:
    """The clauses, the literals given to them, and what these leave of each clause.

    To give a literal is what [2.2] calls the residue under it. Only the clauses with its variable are touched, so that
    many literals, one after the other, are given to many clauses without going through all of these each time.
    """

    def __init__(self, residue):
        self.clauses = list(residue)
        # For each clause: how many of its literals hold, and how many of them may still hold or do.
        self.kept = [0] * len(residue)
        self.left = [len(clause) for clause in residue]
        self.places = {}
        self.given = {}
        self.trail = []
        # How many clauses have become empty, and the keys of literals that became units.
        self.broken = 0
        self.waiting = []
        for at, clause in enumerate(residue):
            for literal in clause:
                self.places.setdefault(literal, []).append(at)
            self.look_at(at)

    def look_at(self, at):
        """Takes note if a clause is empty or a unit."""
        if self.left[at] == 0:
            self.broken += 1
        elif self.left[at] == 1 and self.kept[at] == 0:
            for literal in self.clauses[at]:
                if abs(literal) not in self.given:
                    heappush(self.waiting, literal_key(literal))

    def enter(self, clause):
        """Adds a clause behind those that are here."""
        at = len(self.clauses)
        self.clauses.append(clause)
        self.kept.append(len([literal for literal in clause if self.has(literal)]))
        self.left.append(len([literal for literal in clause if not self.has(-literal)]))
        for literal in clause:
            self.places.setdefault(literal, []).append(at)
        self.look_at(at)

    def drop_last(self):
        """Removes the last clause; what was given because of it stays given."""
        clause = self.clauses.pop()
        self.kept.pop()
        self.left.pop()
        for literal in clause:
            self.places[literal].pop()

    def has(self, literal):
        """Whether a literal is given."""
        return self.given.get(abs(literal)) == literal

    def give(self, literal):
        """Gives a literal whose variable has none."""
        kept = self.kept
        left = self.left
        self.given[abs(literal)] = literal
        self.trail.append(literal)
        for at in self.places.get(literal, ()):
            kept[at] += 1
        for at in self.places.get(-literal, ()):
            left[at] -= 1
            if left[at] < 2:
                self.look_at(at)

    def take_back(self, many):
        """Takes literals back, the last one first, until only so many are given."""
        kept = self.kept
        left = self.left
        self.waiting = []
        while len(self.trail) > many:
            literal = self.trail.pop()
            del self.given[abs(literal)]
            for at in self.places.get(-literal, ()):
                if left[at] == 0:
                    self.broken -= 1
                left[at] += 1
            for at in self.places.get(literal, ()):
                kept[at] -= 1

    def give_units(self):
        """Gives the least unit again and again, until there is none or a clause is empty; returns them in a list."""
        found = []
        while self.waiting and self.broken == 0:
            variable, sign = heappop(self.waiting)
            if variable not in self.given:
                literal = variable if sign == 1 else -variable
                self.give(literal)
                found.append(literal)
        return found

    def is_left(self, variable):
        """Whether a variable is in what the given literals leave of the clauses."""
        if variable in self.given:
            return False
        places = self.places.get(variable, []) + self.places.get(-variable, [])
        return any(self.kept[at] == 0 for at in places)

    def rest(self):
        """The list of what the given literals leave of the clauses."""
        found = []
        for at, clause in enumerate(self.clauses):
            if self.kept[at] == 0:
                found.append(tuple([literal for literal in clause if abs(literal) not in self.given]))
        return found
