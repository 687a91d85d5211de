"""Expressions as text."""

from countsworn.errors import ExpressionError
from countsworn.expressions import is_word, parts_in, wanted_parts
from countsworn.numerals import read_number, show_number
from countsworn.text import read_variable


def show_expression(expression):
    """The text of an expression."""
    word = expression[0]
    if word == "var":
        return f"x{expression[1]}"
    if word == "yes" or word == "no":
        return word
    shown = [show_expression(part) for part in parts_in(expression)]
    if word == "atmost":
        shown = [show_number(expression[1])] + shown
    return word + "(" + ", ".join(shown) + ")"


class Tokens:
    """The tokens of a text one after the other; at its end the token is empty."""

    def __init__(self, text):
        self.text = text
        self.at = 0
        self.token = ""
        self.step()

    def step(self):
        """Goes on to the token behind this one."""
        start = self.at + len(self.token)
        while self.text[start:start + 1] == " ":
            start += 1
        end = start
        while self.text[end:end + 1].isalnum():
            end += 1
        self.at = start
        # A sign that is no token is taken alone: it fits nowhere.
        self.token = self.text[start:max(end, start + 1)]

    def skip(self, token):
        """Goes on behind this token, if it stands here."""
        if self.token != token:
            raise ExpressionError(self.at)
        self.step()

    def skip_number(self):
        """Goes on behind a number, if one stands here, and returns it."""
        number = read_number(self.token)
        if number is None:
            raise ExpressionError(self.at)
        self.step()
        return number


def begin(tokens, pending):
    """The expression that begins here if it ends before its first part would come; else it is pending."""
    word = tokens.token
    variable = read_variable(word.removeprefix("x")) if word.startswith("x") else None
    if variable is None and not is_word(word):
        raise ExpressionError(tokens.at)
    tokens.step()
    if variable is not None:
        return ("var", variable)
    if word == "yes" or word == "no":
        return (word,)
    tokens.skip("(")
    row = [word]
    if word == "atmost":
        row.append(tokens.skip_number())
    if tokens.token == ")" and wanted_parts(word) is None:
        tokens.step()
        return tuple(row)
    if word == "atmost":
        tokens.skip(",")
    pending.append(row)
    return None


def go_on(tokens, pending, part):
    """The expression that is pending last if this part ends it; else it is pending still."""
    row = pending[-1]
    row.append(part)
    wanted = wanted_parts(row[0])
    count = len(parts_in(row))
    if tokens.token == ")" and (wanted is None or count == wanted):
        tokens.step()
        pending.pop()
        return tuple(row)
    if tokens.token == "," and (wanted is None or count < wanted):
        tokens.step()
        return None
    raise ExpressionError(tokens.at)


def read_expression(text):
    """The expression of a text."""
    tokens = Tokens(text)
    # The operators whose end has not come are kept in a list, so that deep texts lead to no deep calls.
    pending = []
    while True:
        found = begin(tokens, pending)
        while found is not None and pending:
            found = go_on(tokens, pending, found)
        if found is not None:
            if tokens.token != "":
                raise ExpressionError(tokens.at)
            return found
