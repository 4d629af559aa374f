"""Integers and their decimal texts."""

from nolunch.errors import TextError

DIGIT_LIMIT = 9


def is_natural(text):
    """Tell whether a text is that of an integer of at least 0, without leading zeros."""
    return text.isascii() and text.isdigit() and (text[0] != "0" or text == "0")


def read_natural(text):
    """Return the integer of at least 0 with a text of at most DIGIT_LIMIT digits."""
    if len(text) > DIGIT_LIMIT or not is_natural(text):
        raise TextError("not an integer of at most nine digits")
    return int(text)


def read_integer(text):
    """Return the integer with a text of at most DIGIT_LIMIT digits, and a sign if it is below 0."""
    if not text.startswith("-"):
        return read_natural(text)
    number = read_natural(text.removeprefix("-"))
    if number == 0:
        raise TextError("0 has no sign")
    return -number


def write_integer(number):
    """Return the decimal text of an integer of any length."""
    # str() refuses integers of some thousand digits, so it gets them in pieces.
    piece = 10 ** 64
    rest = abs(number)
    pieces = []
    while rest >= piece:
        rest, low = divmod(rest, piece)
        pieces.append(str(low).zfill(64))
    pieces.append(str(rest))
    if number < 0:
        pieces.append("-")
    return "".join(reversed(pieces))
