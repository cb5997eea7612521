"""Small questions about plain values that several modules ask."""


def is_whole(thing):
    """Whether a thing is a whole number."""
    # Python counts truths among the ints; here they stand for no number.
    return isinstance(thing, int) and not isinstance(thing, bool)


def is_below(thing, limit):
    """Whether a thing is a whole number from 0 on that is less than the limit."""
    return is_whole(thing) and 0 <= thing < limit


def is_tuple_of(thing, least, most):
    """Whether a thing is a tuple that has from least to most parts."""
    return isinstance(thing, tuple) and least <= len(thing) <= most


def is_from_nought(thing):
    """Whether a thing is a whole number from 0 on."""
    return is_whole(thing) and thing >= 0


def is_rising(row):
    """Whether each of a row of like things is less than the next one."""
    return all([row[at] < row[at + 1] for at in range(len(row) - 1)])


def copied(thing):
    """A plain thing anew, so that nothing done to the one shows in the other."""
    if isinstance(thing, tuple):
        return tuple([copied(part) for part in thing])
    if isinstance(thing, list):
        return [copied(part) for part in thing]
    if isinstance(thing, dict):
        return {key: copied(thing[key]) for key in thing}
    return thing
