"""Where two cases of one family and one line part."""

from crossmarks.carrying import carried_at, pair_place
from crossmarks.shares import NOUGHT
from crossmarks.states import weighed_states


def first_unlike_pair(shares, shares2):
    """The first sorted pair whose shares are unlike, with both, None where all are alike."""
    for pair in sorted(set(shares) | set(shares2)):
        share = shares.get(pair, NOUGHT)
        share2 = shares2.get(pair, NOUGHT)
        if share != share2:
            return (pair, share, share2)
    return None


def first_unlike(case, other):
    """The first (member, mark, pair, share, share2) where two cases part, None where they don't; NoWeight."""
    # The states of both are gone through once, not for each member and mark.
    rows = weighed_states(case)
    rows2 = weighed_states(other)
    for member in range(len(case[0])):
        for mark in range(len(case[1][0])):
            place = pair_place(case, member, mark)
            parts = first_unlike_pair(dict(carried_at(rows, place)), dict(carried_at(rows2, place)))
            if parts is not None:
                return (member, mark) + parts
    return None
