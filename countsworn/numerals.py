"""Integers, and their decimal digits."""

# Python's own str() and int() refuse numbers of more than 4300 digits; parts of this size never do.
_PART_DIGITS = 60
_PART = 10 ** 60


def is_whole(value):
    """Whether a value is an integer; True and False are none."""
    return isinstance(value, int) and not isinstance(value, bool)


def show_number(n):
    """The decimal digits of an integer, with the sign - if it is below 0."""
    rest = abs(n)
    parts = []
    while rest >= _PART:
        rest, low = divmod(rest, _PART)
        parts.append(str(low).zfill(_PART_DIGITS))
    parts.append(str(rest))
    if n < 0:
        parts.append("-")
    return "".join(parts[::-1])


def read_number(text):
    """The integer, not below 0, whose digits are the text, without leading zeros; or None."""
    if text == "" or (text[0] == "0" and text != "0"):
        return None
    # str.isdigit() would take digits that are not 0 to 9.
    if not all(sign in "0123456789" for sign in text):
        return None
    n = 0
    padded = text.zfill(len(text) + -len(text) % _PART_DIGITS)
    for at in range(0, len(padded), _PART_DIGITS):
        n = n * _PART + int(padded[at:at + _PART_DIGITS])
    return n
