"""Books that are made again from their logs."""

from nolunch.books import Book
from nolunch.errors import JournalError, MarketplaceError
from nolunch.integers import read_natural
from nolunch.notation import read_market
from nolunch.ratios import read_fraction
from nolunch.texts import read_contract


def replay_whole_lines(text):
    """Return the book of a log whose last line may have been cut off."""
    return replay(text[:text.rfind("\n") + 1])


def replay(text):
    """Return the book of a log."""
    lines = text.split("\n")
    if lines.pop() != "":
        raise JournalError("the last line of a log has no line feed")
    place = _money_place(lines)
    market = read_market("".join([line + "\n" for line in lines[:place]]))
    try:
        return _replayed(market, lines[place], lines[place + 1:])
    except MarketplaceError as error:
        raise JournalError("a line of a log is no deed that can be done") from error


def _money_place(lines):
    """Return the place of the first line that begins with the word money."""
    for place, line in enumerate(lines):
        if line.split(" ")[0] == "money":
            return place
    raise JournalError("a log has no line for the money")


def _replayed(market, money_line, deed_lines):
    words = money_line.split(" ")
    _check_count(words, 2)
    book = Book(market, read_fraction(words[1]))
    for line in deed_lines:
        words = line.split(" ")
        if words[0] not in DEEDS:
            raise JournalError("a line of a log does not begin with a deed")
        deed = DEEDS[words[0]]
        deed(book, words)
    return book


def _check_count(words, many):
    if len(words) != many:
        raise JournalError("a line of a log has too few words, or too many")


def _sell(book, words):
    if len(words) < 3:
        raise JournalError("a deal has a price and a contract")
    book.sell(read_contract(" ".join(words[2:])), read_fraction(words[1]))


def _choose(book, words):
    _check_count(words, 3)
    book.choose(read_natural(words[1]), read_natural(words[2]))


def _settle(book, words):
    _check_count(words, len(book.held))
    book.settle_with(tuple([read_fraction(word) for word in words[1:]]))


def _move(book, words):
    _check_count(words, 2)
    book.move(read_natural(words[1]))


DEEDS = {"sell": _sell, "choose": _choose, "settle": _settle, "move": _move}
