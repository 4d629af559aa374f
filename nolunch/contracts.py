"""Contracts: what their parts are made of, and how they are checked."""

from nolunch.errors import ContractError

PART_LIMIT = 40
DEPTH_LIMIT = 20

# What stands behind the first word of each part.
VALUES = {
    "number": ("size",),
    "buy": ("good",),
    "sell": ("good",),
    "plus": ("value", "value"),
    "minus": ("value", "value"),
    "times": ("value", "value"),
    "least": ("value", "value"),
    "greatest": ("value", "value"),
}
CONDITIONS = {
    "less": ("value", "value"),
    "same": ("value", "value"),
    "not": ("condition",),
    "and": ("condition", "condition"),
}
CONTRACTS = {
    "nothing": (),
    "one": ("good",),
    "scale": ("value", "contract"),
    "both": ("contract", "contract"),
    "give": ("contract",),
    "or": ("contract", "contract"),
    "at": ("time", "contract"),
    "when": ("condition", "contract"),
    "until": ("condition", "contract"),
    "early": ("time", "contract"),
    "later": ("contract",),
}


def kinds_behind(word):
    """Return the kinds of what stands behind the first word of a part."""
    if word in VALUES:
        return VALUES[word]
    if word in CONDITIONS:
        return CONDITIONS[word]
    return CONTRACTS[word]


def parts_behind(part):
    """Return the parts that stand behind the first word of a part."""
    return [thing for kind, thing in zip(kinds_behind(part[0]), part[1:])
            if kind in ("value", "condition", "contract")]


def walk_parts(part):
    """Return the list of pairs (part, depth) of a part, 1 deep, and of all in it, from the left."""
    # No recursion: nobody has looked yet how deep the parts are nested.
    found = []
    waiting = [(part, 1)]
    while waiting:
        each, depth = waiting.pop()
        found.append((each, depth))
        for behind in reversed(parts_behind(each)):
            waiting.append((behind, depth + 1))
    return found


def check_contract(goods, contract):
    """Return None if something is a contract for some goods within the limits, raise otherwise."""
    many = 0
    waiting = [(contract, 1)]
    while waiting:
        part, depth = waiting.pop()
        many += 1
        # Asked part by part: there may be very many behind the first ones too many.
        if many > PART_LIMIT or depth > DEPTH_LIMIT:
            raise ContractError("a contract has too many parts, or is nested too deep")
        check_numbers(goods, part)
        for behind in parts_behind(part):
            waiting.append((behind, depth + 1))


def check_numbers(goods, part):
    """Return None if a part itself has only goods and times that there are, raise otherwise."""
    for kind, thing in zip(kinds_behind(part[0]), part[1:]):
        if kind == "good" and not 0 <= thing < goods:
            raise ContractError("a contract has a good that there is not")
        if kind == "time" and thing < 0:
            raise ContractError("a contract has a time below 0")


def size_of(contract):
    """Return how many parts a contract has."""
    return len(walk_parts(contract))


def depth_of(contract):
    """Return how deep the parts of a contract are nested."""
    return max([depth for _, depth in walk_parts(contract)])
