"""Holding: the weight of just the states that have told values."""

from crossmarks.shares import total
from crossmarks.states import states_of
from crossmarks.tables import grouped, picked
from crossmarks.things import things_of, values_of


def places_of(case, things):
    """Where the values of some things stand in each state of the case."""
    all_things = things_of(case)
    return [all_things.index(thing) for thing in things]


def held_weight(case, held):
    """The weight of the case with some things held at values, as tuples (thing, value)."""
    places = places_of(case, [thing for thing, value in held])
    wanted = tuple([value for thing, value in held])
    return total([weight for state, weight in states_of(case) if picked(state, places) == wanted])


def value_rows(case, things):
    """The rising list of all rows of values of some things."""
    rows = [()]
    for thing in things:
        rows = [row + (value,) for row in rows for value in values_of(case, thing)]
    return rows


def summed_over(case, things):
    """The list of (held, weight) of the case held at each row of values of some things, those of 0 too."""
    rows = value_rows(case, things)
    groups = grouped(states_of(case), places_of(case, things))
    return [
        (tuple(zip(things, values)), total([weight for state, weight in groups.get(values, [])]))
        for values in rows
    ]
