"""Sheets: what their nodes lead to."""


def children_of(rule):
    """The tuple of the children of a rule."""
    word = rule[0]
    if word == "unit" or word == "more":
        return (rule[2],)
    if word == "choice":
        return (rule[2], rule[3])
    if word == "parts":
        return tuple(rule[1])
    if word == "less":
        return (rule[1],)
    return ()


def renumbered(rule, numbers):
    """The rule with the numbers of its children looked up in numbers."""
    word = rule[0]
    if word == "unit" or word == "more":
        return (word, rule[1], numbers[rule[2]])
    if word == "choice":
        return (word, rule[1], numbers[rule[2]], numbers[rule[3]])
    if word == "parts":
        return (word, tuple([numbers[child] for child in rule[1]]))
    if word == "less":
        return (word, numbers[rule[1]])
    return rule


def reached(sheet):
    """The ascending list of the numbers of the nodes to which children lead from the root."""
    nodes = sheet[1]
    found = {len(nodes) - 1: True}
    # Children have lesser numbers, so all that leads to a node was looked at when its turn comes.
    for number in range(len(nodes) - 1, -1, -1):
        if number in found:
            for child in children_of(nodes[number][1]):
                found[child] = True
    return sorted(list(found))


def words_of(sheet):
    """The list of the words of the rules of the reached nodes."""
    nodes = sheet[1]
    return [nodes[number][1][0] for number in reached(sheet)]


def is_open(sheet):
    """Whether an open node is reached."""
    return "open" in words_of(sheet)


def tally(sheet):
    """The ascending list of the words of the rules of the reached nodes, each with how often it stands there."""
    counts = {}
    for word in words_of(sheet):
        counts[word] = counts.get(word, 0) + 1
    return [(word, counts[word]) for word in sorted(list(counts))]


def trimmed(sheet):
    """The sheet of the reached nodes alone, in their order."""
    formula, nodes = sheet
    numbers = {}
    for number in reached(sheet):
        numbers[number] = len(numbers)
    kept = [(nodes[number][0], renumbered(nodes[number][1], numbers)) for number in numbers]
    return (formula, tuple(kept))
