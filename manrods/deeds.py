"""DEEDS: which there are, and what they name [20]."""

from manrods.basics import is_count, is_tuple

# What stands behind the kind of each DEED.
PARTS = {
    "board": ("man", "level"), "aside": ("man",), "couple": ("cistern", "yes"), "cock": ("cistern", "amount"),
    "stoke": ("amount",), "mend": ("fault",), "bell": (),
}


def _is_part(word, thing, limits):
    """Whether thing is what this word of PARTS says; limits is a dict of how many there are of each."""
    if word == "yes":
        return isinstance(thing, bool)
    if word == "amount":
        return is_count(thing) and thing > 0
    return is_count(thing) and thing < limits[word]


def is_deed(mine, men, faults, thing):
    """Whether thing is a DEED that names what is there: one of so many men, of so many FAULTS, of mine."""
    if not isinstance(thing, tuple) or thing == () or not isinstance(thing[0], str) or thing[0] not in PARTS:
        return False
    words = PARTS[thing[0]]
    if len(thing) != len(words) + 1:
        return False
    limits = {"man": men, "level": mine[0][0] + 1, "cistern": len(mine[1]), "fault": faults}
    return all([_is_part(word, part, limits) for word, part in zip(words, thing[1:])])


def are_told(mine, men, faults, thing):
    """Whether thing are told DEEDS that name what is there."""
    if not isinstance(thing, tuple) or not all([is_tuple(part, 2) and is_count(part[0]) for part in thing]):
        return False
    if not all([one[0] <= two[0] for one, two in zip(thing, thing[1:])]):
        return False
    return all([is_deed(mine, men, faults, deed) for _, deed in thing])
