"""Plain values as lists of bytes."""

from countsworn.checker import check
from countsworn.errors import PackError
from countsworn.numerals import is_whole

_DEEPEST = 60
_LETTERS = "abcdefghijklmnopqrstuvwxyz"
# The first byte of each kind of value.
_NONE = 0
_FALSE = 1
_TRUE = 2
_COUNT = 3
_BELOW = 4
_TEXT = 5
_TUPLE = 6
# The values that their first byte tells.
_BARE = (None, False, True)


def size_bytes(n):
    """The list of the bytes of a size: its digits in base 128, the lowest first, all but the last with 128 added."""
    found = []
    while n >= 128:
        found.append(n % 128 + 128)
        n = n // 128
    return found + [n]


def is_text(value):
    """Whether any value is a string of letters a to z."""
    return isinstance(value, str) and all(sign in _LETTERS for sign in value)


def leaf_bytes(value):
    """The list of the bytes of any value that is no tuple."""
    if value is None:
        return [_NONE]
    if isinstance(value, bool):
        return [_TRUE if value else _FALSE]
    if is_text(value):
        return [_TEXT] + size_bytes(len(value)) + [ord(sign) for sign in value]
    if not is_whole(value):
        raise PackError(-1)
    if value < 0:
        return [_BELOW] + size_bytes(-1 - value)
    return [_COUNT] + size_bytes(value)


def pack(value):
    """The list of the bytes of a plain value."""
    found = []
    # What is still to be written, the next one last, each with the number of tuples around it.
    waiting = [(value, 0)]
    while waiting:
        item, depth = waiting.pop()
        if isinstance(item, tuple):
            if depth == _DEEPEST:
                raise PackError(-1)
            found.extend([_TUPLE] + size_bytes(len(item)))
            waiting.extend([(part, depth + 1) for part in item[::-1]])
        else:
            found.extend(leaf_bytes(item))
    return found


class Unpacking:
    """Reads values from a list of bytes, from its beginning on."""

    def __init__(self, data):
        self.data = data
        self.at = 0

    def step(self, least, greatest):
        """The next byte, which is in this range."""
        if self.at == len(self.data):
            raise PackError(self.at)
        byte = self.data[self.at]
        if not is_whole(byte) or not least <= byte <= greatest:
            raise PackError(self.at)
        self.at += 1
        return byte

    def size(self):
        """The size that begins here."""
        digits = []
        byte = 128
        while byte >= 128:
            # A last digit 0 is needless if there are others.
            byte = self.step(1 if digits else 0, 255)
            digits.append(byte % 128)
        found = 0
        for digit in digits[::-1]:
            found = found * 128 + digit
        return found

    def letters(self):
        """The string whose length begins here."""
        # The length may be told far beyond what is there, so no list of that length is made ahead.
        many = self.size()
        signs = []
        while len(signs) < many:
            signs.append(_LETTERS[self.step(ord("a"), ord("z")) - ord("a")])
        return "".join(signs)

    def leaf(self, kind):
        """The value of a kind other than tuples, whose first byte was read."""
        if kind == _COUNT:
            return self.size()
        if kind == _BELOW:
            return -1 - self.size()
        if kind == _TEXT:
            return self.letters()
        return _BARE[kind]


class Opened:
    """A tuple whose items have not all been read."""

    def __init__(self, many):
        self.many = many
        self.parts = []


def read_item(reading, opened):
    """Reads the next item of the tuple that was opened last, or opens one there."""
    # What holds the whole value is opened first, and is no tuple.
    deepest = len(opened) - 1 == _DEEPEST
    kind = reading.step(_NONE, _TEXT if deepest else _TUPLE)
    if kind == _TUPLE:
        opened.append(Opened(reading.size()))
    else:
        opened[-1].parts.append(reading.leaf(kind))


def unpack(data):
    """The plain value whose bytes these are."""
    reading = Unpacking(data)
    outer = Opened(1)
    opened = [outer]
    while opened:
        last = opened[-1]
        if len(last.parts) < last.many:
            read_item(reading, opened)
        else:
            opened.pop()
            if opened:
                opened[-1].parts.append(tuple(last.parts))
    if reading.at < len(data):
        raise PackError(reading.at)
    return outer.parts[0]


def check_bytes(formula, data):
    """Whether the value with these bytes is a sheet of a formula whose nodes are all as they must be."""
    return check(formula, unpack(data))
