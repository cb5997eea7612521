"""Which founder's string each string came down from."""

from crossmarks.families import elder
from crossmarks.shares import over, total
from crossmarks.states import weighed_states
from crossmarks.things import things_of


def traced(family, values, member, side, mark):
    """The founder's string (founder, side) that a string comes from at a mark, by the values of things."""
    while family[member] is not None:
        turn = values["turn", member, side, mark]
        member = elder(family, member, side)
        side = turn
    return (member, side)


def comes_from(case, state, member, side, mark):
    """The founder's string (founder, side) that a string of a member comes from at a mark, in this state."""
    return traced(case[0], dict(zip(things_of(case), state)), member, side, mark)


def meet(family, values, member, other, mark):
    """Whether some string of a member comes from the same founder's string as one of the other."""
    strings = [traced(family, values, other, side, mark) for side in (0, 1)]
    return any([traced(family, values, member, side, mark) in strings for side in (0, 1)])


def same_share(case, member, other, mark):
    """The share that two members have some string from one founder's string; NoWeight where the case can't be."""
    rows = weighed_states(case)
    things = things_of(case)
    shared = [weight for state, weight in rows if meet(case[0], dict(zip(things, state)), member, other, mark)]
    return over(total(shared), total([weight for state, weight in rows]))
