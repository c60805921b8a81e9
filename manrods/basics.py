"""What all files share: what a number is, and tuples in the place of lists [2]."""


def is_number(thing):
    """Whether thing is a number."""
    return isinstance(thing, int) and not isinstance(thing, bool)


def is_count(thing):
    """Whether thing is a number from 0."""
    return is_number(thing) and thing >= 0


def is_level(thing, deep):
    """Whether thing is a level of a shaft that is so deep."""
    return is_number(thing) and 0 <= thing <= deep


def is_tuple(thing, size):
    """Whether thing is a tuple of so many."""
    return isinstance(thing, tuple) and len(thing) == size


def is_ascending(row):
    """Whether each of row is less than the next one."""
    return all([one < two for one, two in zip(row, row[1:])])


def tupled(value):
    """The value with a tuple in the place of each list."""
    if isinstance(value, (list, tuple)):
        return tuple([tupled(part) for part in value])
    return value
