"""The errors that the program raises."""


class CountsError(ValueError):
    """The base of all errors of the program."""


class FormulaError(CountsError):
    """A text that is no formula; line is the number of the faulty line, counted from 1."""

    def __init__(self, line):
        super().__init__(f"line {line}")
        self.line = line


class ExpressionError(CountsError):
    """A text that is no expression; at is the offset of what cannot stand there."""

    def __init__(self, at):
        super().__init__(f"offset {at}")
        self.at = at


class PackError(CountsError):
    """Data or a listing that cannot be read, or a value that cannot be packed; at says where."""

    def __init__(self, at):
        super().__init__(f"place {at}")
        self.at = at


class OpenSheet(CountsError):
    """A question that a sheet with open nodes does not answer."""


class NoFilling(CountsError):
    """A question about models where there is none."""


class PolicyError(CountsError):
    """A value that is no policy."""


class ChangeError(CountsError):
    """A change that cannot be made."""
