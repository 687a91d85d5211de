"""Sheets as sums of ways, with whole numbers in the place of weights."""

from math import lcm

from countsworn.errors import OpenSheet
from countsworn.fractions import fraction
from countsworn.sheets import children_of, is_open, trimmed


class Scale:
    """The weights of a formula as whole numbers, and tuples of its shown variables as bits.

    Both literals of a variable are taken as many times as their weights need to be whole: its factor. So the weights of
    all fillings of the same variables are taken the same number of times. The least variable has the highest bit: where
    a bit tells that the variable is held, the numbers of fillings of the same variables ascend as the fillings do.
    """

    def __init__(self, formula, weights):
        own = {literal: weight for literal, weight in weights}
        self.shown = formula[0]
        self.bits = {}
        self.whole = {}
        self.free = {}
        self.factors = {}
        # The bits of the variables whose factor is not 1.
        self.broken = 0
        for at, variable in enumerate(self.shown):
            low = own.get(-variable, (1, 1))
            high = own.get(variable, (1, 1))
            factor = lcm(low[1], high[1])
            self.bits[variable] = 1 << (len(self.shown) - 1 - at)
            self.whole[-variable] = low[0] * (factor // low[1])
            self.whole[variable] = high[0] * (factor // high[1])
            self.free[variable] = self.whole[-variable] + self.whole[variable]
            self.factors[variable] = factor
            if factor > 1:
                self.broken = self.broken | self.bits[variable]

    def everything(self):
        """The bits of all shown variables."""
        return (1 << len(self.shown)) - 1

    def shown_in(self, mask):
        """The ascending list of the variables whose bits these are."""
        found = []
        while mask > 0:
            places = mask.bit_length()
            found.append(self.shown[len(self.shown) - places])
            mask = mask - (1 << (places - 1))
        return found

    def mask_of(self, clause):
        """The bits of the shown variables of a clause."""
        mask = 0
        for literal in clause:
            mask = mask | self.bits.get(abs(literal), 0)
        return mask

    def masks_of(self, nodes):
        """The list of the bits of the own shown variables of nodes."""
        known = {}
        masks = []
        for residue, _ in nodes:
            mask = 0
            for clause in residue:
                if clause not in known:
                    known[clause] = self.mask_of(clause)
                mask = mask | known[clause]
            masks.append(mask)
        return masks

    def free_weight(self, mask):
        """The free weight of the variables whose bits these are, as a whole number."""
        found = 1
        for variable in self.shown_in(mask):
            found = found * self.free[variable]
        return found

    def fraction_of(self, whole, mask):
        """The fraction that a whole number stands for, as a weight of these variables."""
        factor = 1
        for variable in self.shown_in(mask & self.broken):
            factor = factor * self.factors[variable]
        return fraction(whole, factor)

    def filling_of(self, mask):
        """The filling of all shown variables whose held ones are those with these bits."""
        return tuple([variable if mask & self.bits[variable] else -variable for variable in self.shown])


def ways_of(rule):
    """The list of the ways of a rule: the literal that is decided, or 0, and the children."""
    word = rule[0]
    if word == "choice":
        return [(rule[1], (rule[2],)), (-rule[1], (rule[3],))]
    if word == "unit":
        return [(rule[1], (rule[2],))]
    if word == "no" or word == "refuted" or word == "open":
        return []
    # The child of more and less, all those of parts, and none for yes and some.
    return [(0, children_of(rule))]


class Flow:
    """The sums of the nodes of a sheet, each one the sum of its ways, and on top of them one for the formula.

    A way is (factor, literal, gone, children): its own weight with that of all variables that are gone, the literal
    that it decides or 0, the bits of the variables that are gone, and the nodes whose sums are multiplied. A literal
    can be given: then only what has it is summed up, until it is taken back.
    """

    def __init__(self, sheet, weights):
        formula, nodes = sheet
        self.scale = Scale(formula, weights)
        self.masks = self.scale.masks_of(nodes) + [self.scale.everything()]
        self.ways = []
        self.sums = []
        self.trail = []
        for _, rule in nodes:
            self.add(ways_of(rule))
        self.add([(0, (len(nodes) - 1,))])

    def add(self, pairs):
        """Adds the next node, of ways that are told by a literal and children."""
        mask = self.masks[len(self.ways)]
        ways = [self.way_of(mask, literal, children) for literal, children in pairs]
        self.ways.append(ways)
        self.sums.append(self.sum_of_ways(ways))

    def way_of(self, mask, literal, children):
        """The way of a node with these own variables."""
        gone = mask & ~self.scale.bits.get(abs(literal), 0)
        for child in children:
            gone = gone & ~self.masks[child]
        factor = self.scale.whole.get(literal, 1)
        if gone > 0:
            factor = factor * self.scale.free_weight(gone)
        return (factor, literal, gone, children)

    def sum_of_way(self, way):
        """The sum of a way."""
        found, _, _, children = way
        for child in children:
            found = found * self.sums[child]
        return found

    def sum_of_ways(self, ways):
        """The sum of several ways."""
        return sum([self.sum_of_way(way) for way in ways])

    def free_nodes(self, numbers):
        """Counts nodes as if nothing were left of their residues: as the free weight of their own variables."""
        for number in numbers:
            self.ways[number] = [self.way_of(self.masks[number], 0, ())]
        # Children have lesser numbers, so their sums are there when they are asked for.
        for number, ways in enumerate(self.ways):
            self.sums[number] = self.sum_of_ways(ways)

    def total(self):
        """The sum of the formula, as a whole number."""
        return self.sums[-1]

    def fraction_at(self, number):
        """The sum of a node; that of the formula has the number -1."""
        return self.scale.fraction_of(self.sums[number], self.masks[number])

    def touched(self, bit):
        """The ascending list of the nodes that count for the total and have the variable with this bit."""
        found = {}
        waiting = [len(self.ways) - 1]
        while waiting:
            number = waiting.pop()
            if number not in found and self.masks[number] & bit:
                found[number] = True
                for _, _, _, children in self.ways[number]:
                    waiting.extend(children)
        return sorted(list(found))

    def way_under(self, way, literal):
        """The way given a literal that it may decide or whose variable may be gone in it."""
        factor, own, gone, children = way
        variable = abs(literal)
        if gone & self.scale.bits[variable] and factor > 0:
            factor = factor // self.scale.free[variable] * self.scale.whole[literal]
        return (factor, own, gone, children)

    def give(self, literal):
        """Sums up only what has a literal, whose variable was not given, from now on."""
        before = []
        for number in self.touched(self.scale.bits[abs(literal)]):
            before.append((number, self.ways[number], self.sums[number]))
            ways = [self.way_under(way, literal) for way in self.ways[number] if way[1] != -literal]
            # What is worth nothing is left out, so that the next walks are shorter.
            self.ways[number] = [way for way in ways if self.sum_of_way(way) > 0]
            self.sums[number] = self.sum_of_ways(self.ways[number])
        self.trail.append(before)

    def take_back(self):
        """Takes the literal back that was given last."""
        before = self.trail.pop()
        for number, ways, found in before:
            self.ways[number] = ways
            self.sums[number] = found


def closed_flow(sheet, weights):
    """The flow of a sheet without open nodes; OpenSheet if the root reaches one."""
    if is_open(sheet):
        raise OpenSheet("an open node is reached")
    return Flow(trimmed(sheet), weights)
