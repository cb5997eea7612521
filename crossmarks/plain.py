"""Small questions about plain values that several modules ask."""


def is_whole(thing):
    """Whether a thing is a whole number."""
    # Python counts truths among the ints; here they stand for no number.
    return isinstance(thing, int) and not isinstance(thing, bool)


def is_below(thing, limit):
    """Whether a thing is a whole number from 0 on that is less than the limit."""
    return is_whole(thing) and 0 <= thing < limit


def is_tuple_of(thing, least, most):
    """Whether a thing is a tuple that has from least to most parts."""
    return isinstance(thing, tuple) and least <= len(thing) <= most
