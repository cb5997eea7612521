"""Lots: some of what is seen, and whether they can be together."""

from crossmarks.holding import places_of
from crossmarks.rules import may_be
from crossmarks.shares import NOUGHT
from crossmarks.states import full_sum, states_of


def with_lot(case, lot):
    """The case with what a lot names alone seen."""
    family, line, seen = case
    return (family, line, tuple([seen[number] for number in lot]))


def can_be(case, lot):
    """Whether the case with this lot alone weighs more than 0."""
    return full_sum(with_lot(case, lot)) != NOUGHT


def lots_of(many, size):
    """The rising list of all lots of a size, of so many seen."""
    lots = [()]
    for step in range(size):
        lots = [lot + (number,) for lot in lots for number in range(lot[-1] + 1 if lot else 0, many)]
    return lots


def lots_by_size(many):
    """All lots of so many seen, by how many and then as they rise."""
    return [lot for size in range(many + 1) for lot in lots_of(many, size)]


def fitting_lot(case, places, state):
    """The lot of all that is seen that a state fits."""
    pairs = [state[place] for place in places]
    return tuple([number for number in range(len(pairs)) if may_be(case[2][number][2], pairs[number])])


def fitting_states(case):
    """By each lot that is all that some state fits, the first such state of the case with nothing seen."""
    # A lot can be just where some state fits it, so that the states are gone through once, not for each lot.
    places = places_of(case, [("pair", member, mark) for member, mark, pairs in case[2]])
    found = {}
    for state, weight in states_of(with_lot(case, ())):
        lot = fitting_lot(case, places, state)
        if lot not in found:
            found[lot] = state
    return found


def state_for(found, lot):
    """A state of those found that fits a lot, None where none does."""
    for whole_lot in found:
        if all([number in whole_lot for number in lot]):
            return found[whole_lot]
    return None


def first_unfit(found, many):
    """The first lot, by how many and then as they rise, that no state found fits; None where each has one."""
    for lot in lots_by_size(many):
        if state_for(found, lot) is None:
            return lot
    return None


def least_lot(case):
    """The first lot of as few as can be that can't be, None where the case can be."""
    many = len(case[2])
    if can_be(case, tuple(range(many))):
        # Asked ahead, as all that is seen leaves fewer states to go through than nothing seen.
        return None
    return first_unfit(fitting_states(case), many)
