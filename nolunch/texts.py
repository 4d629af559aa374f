"""Texts of contracts."""

from nolunch.contracts import CONDITIONS, CONTRACTS, VALUES, kinds_behind
from nolunch.errors import TextError
from nolunch.integers import read_integer, write_integer
from nolunch.ratios import read_fraction, write_fraction


def write_contract(contract):
    """Return the text of a contract."""
    # No recursion: of depths nothing is asked.
    pieces = []
    waiting = [("contract", contract)]
    while waiting:
        kind, thing = waiting.pop()
        if kind == "sign":
            pieces.append(thing)
        elif kind == "size":
            pieces.append(write_fraction(thing))
        elif kind in ("good", "time"):
            pieces.append(write_integer(thing))
        else:
            pieces.append(thing[0])
            waiting.extend(_behind_word(thing)[::-1])
    return "".join(pieces)


def _behind_word(part):
    """Return what is to be written behind the first word of a part, signs included."""
    pieces = []
    sign = "("
    for kind, thing in zip(kinds_behind(part[0]), part[1:]):
        pieces.extend([("sign", sign), (kind, thing)])
        sign = ", "
    if pieces:
        pieces.append(("sign", ")"))
    return pieces


def read_contract(text):
    """Return the contract with a text."""
    reader = Reader(text)
    thing = reader.begin_thing("contract")
    while reader.begun:
        if thing is not None:
            reader.begun[-1].append(thing)
        thing = reader.go_on()
    if reader.place != len(text):
        raise TextError("something stands behind the end of a contract")
    return thing


class Reader:
    """A text of a contract that is read up to some place, and the parts that are not ended there."""

    def __init__(self, text):
        self.text = text
        self.place = 0
        self.begun = []

    def begin_thing(self, kind):
        """Return what stands here if it is whole; begin a part otherwise, and return None."""
        word = self._take_word()
        if kind == "size":
            return read_fraction(word)
        if kind in ("good", "time"):
            return read_integer(word)
        if not _is_word(kind, word):
            raise TextError("not a word with which such a part begins")
        if not kinds_behind(word):
            return (word,)
        self.begun.append([word])
        return None

    def go_on(self):
        """Go on with the last part that is begun: begin its next thing, or end it and return it."""
        part = self.begun[-1]
        kinds = kinds_behind(part[0])
        done = len(part) - 1
        if done < len(kinds):
            self._take_sign(", " if done else "(")
            return self.begin_thing(kinds[done])
        self._take_sign(")")
        return tuple(self.begun.pop())

    def _take_word(self):
        begin = self.place
        while self.place < len(self.text) and self.text[self.place] not in "(),":
            self.place += 1
        return self.text[begin:self.place]

    def _take_sign(self, sign):
        if not self.text.startswith(sign, self.place):
            raise TextError("another sign was to stand there")
        self.place += len(sign)


def _is_word(kind, word):
    if kind == "value":
        return word in VALUES
    if kind == "condition":
        return word in CONDITIONS
    return word in CONTRACTS
