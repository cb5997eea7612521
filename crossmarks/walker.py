"""The walker: goes through a program by full sums."""

from crossmarks.carrying import carries
from crossmarks.changes import with_seen, with_told_gap, without_seen
from crossmarks.lots import least_lot
from crossmarks.running import gone_through
from crossmarks.states import full_sum


class Walker:
    """A case, and what it tells by the sum over all its states."""

    def __init__(self, case):
        self.now = case

    def see(self, member, mark, pairs):
        """Has these pairs seen of a member and mark from now on; NoCase."""
        self.now = with_seen(self.now, member, mark, pairs)

    def forget(self, member, mark):
        """Has nothing seen of a member and mark from now on; NoThing."""
        self.now = without_seen(self.now, member, mark)

    def gap(self, number, share):
        """Has another share of a gap from now on; NoCase."""
        self.now = with_told_gap(self.now, number, share)

    def weight(self):
        """The weight of the case."""
        return full_sum(self.now)

    def carried(self, member, mark):
        """The list of sorted pairs of a member and mark with shares; NoThing, then NoWeight."""
        return carries(self.now, member, mark)

    def lot(self):
        """A least lot that can't be, None where the case can be."""
        return least_lot(self.now)


def walked(case, program):
    """The list of what a program tells of a case, by full sums."""
    return gone_through(Walker(case), program)
