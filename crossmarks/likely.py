"""The likeliest state, and all states that are near to it."""

from crossmarks.shares import common_bottom, greatest_place, is_less, times
from crossmarks.states import weighed_states


def heaviest(rows):
    """The first of some (state, weight) that has the greatest weight."""
    return rows[greatest_place([weight for state, weight in rows])]


def likeliest(case):
    """The first state of the greatest weight, with it; NoWeight where the case can't be."""
    return heaviest(weighed_states(case))


def heaviest_first(rows):
    """Some (state, weight) with the greatest weight first, those of one weight as states rise."""
    # Over one bottom the tops alone tell the order.
    bottom = common_bottom([weight for state, weight in rows])
    return sorted(rows, key=lambda row: (-row[1][0] * (bottom // row[1][1]), row[0]))


def within(case, *, share=(1, 1)):
    """All (state, weight) whose weight is at least a share of the greatest, that first; NoWeight."""
    rows = weighed_states(case)
    least = times(share, heaviest(rows)[1])
    return heaviest_first([row for row in rows if not is_less(row[1], least)])
