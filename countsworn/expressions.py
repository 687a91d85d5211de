"""Expressions over variables: what is one, where it holds, what variables it has."""

from countsworn.clauses import is_variable
from countsworn.numerals import is_whole

_DEEPEST = 40
# How many parts each word has, the k of atmost not counted; None stands for any number.
_PARTS = {
    "yes": 0, "no": 0, "not": 1, "and": None, "or": None, "xor": 2, "iff": 2, "implies": 2, "if": 3, "atmost": None,
}


def is_word(text):
    """Whether a text is a word that an expression begins with, var aside."""
    return text in _PARTS


def wanted_parts(word):
    """How many parts a word has, or None for any number."""
    return _PARTS[word]


def parts_in(expression):
    """The list of the expressions that an expression is made of."""
    word, *parts = expression
    if word == "var":
        return []
    return parts[1:] if word == "atmost" else parts


def nests_within(value, depth):
    """Whether any value is an expression that nests at most so deep."""
    if depth == 0 or not isinstance(value, tuple) or len(value) == 0 or not isinstance(value[0], str):
        return False
    word, *parts = value
    if word == "var":
        return len(parts) == 1 and is_variable(parts[0])
    if word == "atmost" and (len(parts) == 0 or not is_whole(parts[0]) or parts[0] < 0):
        return False
    own = parts_in(value)
    if not is_word(word) or wanted_parts(word) not in (None, len(own)):
        return False
    return all(nests_within(part, depth - 1) for part in own)


def is_expression(value):
    """Whether any value is an expression."""
    return nests_within(value, _DEEPEST)


def holds_given(expression, given):
    """Whether an expression holds, given a dict of the literals that do."""
    word = expression[0]
    if word == "var":
        return expression[1] in given
    told = [holds_given(part, given) for part in parts_in(expression)]
    if word == "yes" or word == "and":
        return all(told)
    if word == "no" or word == "or":
        return any(told)
    if word == "not":
        return not told[0]
    if word == "xor":
        return told[0] != told[1]
    if word == "iff":
        return told[0] == told[1]
    if word == "implies":
        return not told[0] or told[1]
    if word == "if":
        return told[1] if told[0] else told[2]
    return sum(told) <= expression[1]


def holds(expression, filling):
    """Whether an expression holds under a filling that has all its variables."""
    return holds_given(expression, {literal: True for literal in filling})


def variables_in(expression):
    """The ascending tuple of the variables of an expression."""
    found = {}
    waiting = [expression]
    while waiting:
        part = waiting.pop()
        if part[0] == "var":
            found[part[1]] = True
        waiting.extend(parts_in(part))
    return tuple(sorted(list(found)))
