"""Contracts that are taken out against each other, taken apart and put together."""


def netted(contracts):
    """Return some contracts without pairs of which one is the other one with the sides exchanged."""
    kept = []
    waiting = list(contracts)
    while waiting:
        first = waiting.pop(0)
        place = _opposite_place(first, waiting)
        if place is None:
            kept.append(first)
        else:
            waiting.pop(place)
    return tuple(kept)


def _opposite_place(first, contracts):
    """Return where the first opposite of a contract stands among some others, or None."""
    for place, other in enumerate(contracts):
        if first == ("give", other) or other == ("give", first):
            return place
    return None


def flat(contract):
    """Return the contracts of which the both's of a contract are made, from the left."""
    # No recursion: of depths nothing is asked.
    found = []
    waiting = [contract]
    while waiting:
        each = waiting.pop()
        if each[0] == "both":
            waiting.extend([each[2], each[1]])
        elif each[0] == "give" and each[1][0] in ("both", "give", "nothing"):
            waiting.extend(_exchanged(each[1])[::-1])
        elif each[0] != "nothing":
            found.append(each)
    return tuple(found)


def _exchanged(contract):
    """Return, from the left, what a both, give or nothing is made of, with the sides exchanged."""
    if contract[0] == "both":
        return [("give", contract[1]), ("give", contract[2])]
    return list(contract[1:])


def joined(contracts):
    """Return the contract that is made of all of some contracts, from the left."""
    if not contracts:
        return ("nothing",)
    together = contracts[0]
    for contract in contracts[1:]:
        together = ("both", together, contract)
    return together
