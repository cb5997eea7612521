"""The machine: goes through a program by peeling."""

from crossmarks.carrying import carried_at, need_place
from crossmarks.errors import NoWeight
from crossmarks.keep import Keep
from crossmarks.lots import lots_by_size, with_lot
from crossmarks.peeling import peeled, peeled_to
from crossmarks.running import gone_through
from crossmarks.shares import NOUGHT


def carried_by_peeling(case, order, member, mark):
    """The list of sorted pairs of a member and mark with shares; NoThing, then NoWeight."""
    need_place(case, member, mark)
    things, rows = peeled_to(case, order, ("pair", member, mark))
    if not rows:
        raise NoWeight("the case can't be")
    return carried_at(rows, 0)


def first_without_weight(case, order):
    """The first lot, by how many and then as they rise, whose case is peeled to 0, None where none is."""
    for lot in lots_by_size(len(case[2])):
        if peeled(with_lot(case, lot), order)[0] == NOUGHT:
            return lot
    return None


class Machine(Keep):
    """A keep that also tells, by peeling, what members carry and which lot can't be."""

    def carried(self, member, mark):
        """The list of sorted pairs of a member and mark with shares; NoThing, then NoWeight."""
        return carried_by_peeling(self.case(), self.order(), member, mark)

    def lot(self):
        """A least lot that can't be, None where the case can be."""
        if self.weight() != NOUGHT:
            # Asked ahead, as all lots would be gone through for nothing where the case can be.
            return None
        return first_without_weight(self.case(), self.order())


def run_by_peeling(case, program):
    """The list of what a program tells of a case, by peeling."""
    return gone_through(Machine(case), program)
