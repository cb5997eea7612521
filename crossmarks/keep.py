"""A keep: a case whose tables made by peeling stand while other things of it change."""

from crossmarks.casetables import tables_of
from crossmarks.changes import with_seen, with_told_gap, without_seen
from crossmarks.orders import first_in, good_order, joining_things, need_order
from crossmarks.peeling import joined_for, tables_behind, whole_of
from crossmarks.tables import summed_out


class Keep:
    """A case, an order that stays, and the tables made by peeling in it, each made once."""

    def __init__(self, case, order=None):
        if order is None:
            order = good_order(case)
        need_order(case, order)
        self.now = case
        self.peels_in = order
        self.joins = joining_things(case, order)
        self.tables = {}
        self.many_made = 0

    def __eq__(self, other):
        return isinstance(other, Keep) and self.now == other.now and self.peels_in == other.peels_in

    def case(self):
        """The case as it is now."""
        return self.now

    def order(self):
        """The order, which stays."""
        return self.peels_in

    def made(self):
        """How many tables were made so far."""
        return self.many_made

    def stands(self):
        """The rising list of the things whose table stands."""
        return sorted(list(self.tables))

    def weight(self):
        """The weight of the case; makes the tables that don't stand."""
        left = tables_of(self.now)
        for thing in self.peels_in:
            if thing not in self.tables:
                self.tables[thing] = summed_out(joined_for(left, thing), thing)
                self.many_made += 1
            left = tables_behind(left, thing, self.tables[thing])
        return whole_of(left)

    def see(self, member, mark, pairs):
        """Has these pairs seen of a member and mark from now on; NoCase of whatever makes none."""
        self.become(with_seen(self.now, member, mark, pairs), [("pair", member, mark)])

    def forget(self, member, mark):
        """Has nothing seen of a member and mark from now on; NoThing of both where nothing was."""
        self.become(without_seen(self.now, member, mark), [("pair", member, mark)])

    def gap(self, number, share):
        """Has another share of a gap from now on; NoCase of whatever makes none."""
        case = with_told_gap(self.now, number, share)
        others = [member for member in range(len(case[0])) if case[0][member] is not None]
        strings = [(member, side) for member in others for side in (0, 1)]
        # A gap's table has two turns: it is joined for the one that is peeled first.
        self.become(case, [
            first_in(self.peels_in, [("turn", member, side, number), ("turn", member, side, number + 1)])
            for member, side in strings
        ])

    def become(self, case, changed):
        """Has another case from now on; the tables for the changed things, and what hangs on them, go."""
        if case != self.now:
            self.now = case
            for thing in changed:
                self.let_go(thing)

    def let_go(self, thing):
        """Lets go the table of a thing, and in turn those that hang on it."""
        while thing is not None:
            if thing in self.tables:
                del self.tables[thing]
            thing = self.joins[thing]
