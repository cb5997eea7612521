"""Lines: marks with the shares of their kinds, and the gaps between them."""

from crossmarks.plain import is_tuple_of
from crossmarks.shares import HALF, NOUGHT, ONE, is_less, is_share, total

MOST_MARKS = 3
FEWEST_KINDS = 2
MOST_KINDS = 3


def is_kind_share(thing):
    """Whether a thing, whatever it is, is a share above 0."""
    return is_share(thing) and is_less(NOUGHT, thing)


def is_mark(thing):
    """Whether a thing, whatever it is, is a tuple of shares of kinds that come to 1."""
    if not is_tuple_of(thing, FEWEST_KINDS, MOST_KINDS):
        return False
    return all([is_kind_share(share) for share in thing]) and total(thing) == ONE


def is_gap(thing):
    """Whether a thing, whatever it is, is a share from 0 to 1 / 2."""
    return is_share(thing) and not is_less(thing, NOUGHT) and not is_less(HALF, thing)


def is_line(thing):
    """Whether a thing, whatever it is, is a line."""
    if not is_tuple_of(thing, 2, 2):
        return False
    marks, gaps = thing
    if not is_tuple_of(marks, 1, MOST_MARKS) or not is_tuple_of(gaps, len(marks) - 1, len(marks) - 1):
        return False
    return all([is_mark(mark) for mark in marks]) and all([is_gap(gap) for gap in gaps])
