"""What each part of a state weighs, and whether it may be."""

from crossmarks.shares import ONE, less, times


def founder_share(mark, pair):
    """The share of a founder's pair: that of both its kinds."""
    return times(mark[pair[0]], mark[pair[1]])


def gap_share(gap, turn, turn2):
    """The share of the turns on both sides of a gap."""
    return gap if turn != turn2 else less(ONE, gap)


def agrees(pair, side, turn, from_pair):
    """Whether a pair has on this side the kind that its elder's pair has on the string of the turn."""
    return pair[side] == from_pair[turn]


def may_be(pairs, pair):
    """Whether a pair, its kinds sorted, is one of the seen pairs (None: nothing is seen)."""
    return pairs is None or tuple(sorted(pair)) in pairs
