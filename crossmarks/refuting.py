"""Papers that show that what was seen can't be together, and that fewer can."""

from crossmarks.casetables import tables_of
from crossmarks.lots import fitting_states, least_lot, lots_of, state_for, with_lot
from crossmarks.plain import is_below, is_rising, is_tuple_of, is_whole
from crossmarks.shares import NOUGHT
from crossmarks.states import state_weight
from crossmarks.tables import is_value
from crossmarks.things import is_thing, things_of, values_of


def known_rows(case):
    """Of each table of the case its things, and the values that have a row."""
    return [(things, {values: True for values, share in rows}) for things, rows in tables_of(case)]


def held_too(held, thing, value):
    """The values held, with one more."""
    held = {other: held[other] for other in held}
    held[thing] = value
    return held


def lacks_row(table, held):
    """Whether all things of a table are held, but it has no row for their values."""
    things, rows = table
    return all([thing in held for thing in things]) and tuple([held[thing] for thing in things]) not in rows


def refuting_table(tables, held, thing):
    """The number of the first table with a thing that lacks a row for what is held, None where none does."""
    for number in range(len(tables)):
        if thing in tables[number][0] and lacks_row(tables[number], held):
            return number
    return None


def open_values(case, tables, held, thing):
    """How many values of a thing no table refutes as things are held."""
    values = values_of(case, thing)
    return len([value for value in values if refuting_table(tables, held_too(held, thing, value), thing) is None])


def next_thing(case, tables, held):
    """The first thing not held that has the fewest open values, so that trees stay small."""
    things = [thing for thing in things_of(case) if thing not in held]
    return min(things, key=lambda thing: open_values(case, tables, held, thing))


def tree_under(case, tables, held, thing):
    """A tree, or the number of a table, by which what is held, this thing last, can't be; the things it needs held."""
    number = refuting_table(tables, held, thing)
    if number is not None:
        return (number, tables[number][0])
    return tree_of(case, tables, held)


def tree_of(case, tables, held):
    """A tree by which what is held can't be, and the things that it needs held."""
    thing = next_thing(case, tables, held)
    branches = []
    needed = []
    for value in values_of(case, thing):
        tree, things = tree_under(case, tables, held_too(held, thing, value), thing)
        if thing not in things:
            # Such a tree holds whatever the thing is worth: it needs no branches.
            return (tree, things)
        branches.append((value, tree))
        needed.extend([other for other in things if other != thing])
    return ((thing, branches), sorted(set(needed)))


def lots_below(case, lot):
    """The lots of fewer numbers, rising by how many, then as they rise."""
    return [fewer for size in range(len(lot)) for fewer in lots_of(len(case[2]), size)]


def against(case):
    """A paper that a lot can't be, with states for all lots of fewer; None where the case can be."""
    lot = least_lot(case)
    if lot is None:
        return None
    alone = with_lot(case, lot)
    tree, things = tree_of(alone, known_rows(alone), {})
    found = fitting_states(case)
    return (lot, tree, [(fewer, state_for(found, fewer)) for fewer in lots_below(case, lot)])


def is_lot(case, thing):
    """Whether a thing, whatever it is, is a rising tuple of numbers of the case's seen."""
    many = len(case[2])
    return is_tuple_of(thing, 0, many) and all([is_below(number, many) for number in thing]) and is_rising(thing)


def lets_branch(case, tables, held, thing, branch):
    """Whether a branch, whatever it is, shows that what is held, this thing last, can't be."""
    if not is_tuple_of(branch, 2, 2):
        return False
    value, tree = branch
    if not is_value(thing, value) or value != held[thing]:
        return False
    if is_whole(tree):
        return is_below(tree, len(tables)) and lacks_row(tables[tree], held)
    return lets_tree(case, tables, held, tree)


def lets_tree(case, tables, held, tree):
    """Whether a tree, whatever it is, shows that what is held can't be."""
    if not is_tuple_of(tree, 2, 2):
        return False
    thing, branches = tree
    if not is_thing(case, thing) or thing in held or not isinstance(branches, list):
        return False
    values = values_of(case, thing)
    if len(branches) != len(values):
        return False
    return all([
        lets_branch(case, tables, held_too(held, thing, value), thing, branch)
        for value, branch in zip(values, branches)
    ])


def is_state(case, thing):
    """Whether a thing, whatever it is, has a value for each thing of the case."""
    things = things_of(case)
    if not is_tuple_of(thing, len(things), len(things)):
        return False
    return all([is_value(one, value) and value in values_of(case, one) for one, value in zip(things, thing)])


def lets_row(case, lot, row):
    """Whether a row, whatever it is, shows by a state that this lot can be."""
    if not is_tuple_of(row, 2, 2):
        return False
    told, state = row
    if not is_lot(case, told) or told != lot or not is_state(case, state):
        return False
    return state_weight(with_lot(case, lot), state) != NOUGHT


def lets_rows(case, lot, rows):
    """Whether rows, whatever they are, show that all lots of fewer numbers can be."""
    fewer = lots_below(case, lot)
    if not isinstance(rows, list) or len(rows) != len(fewer):
        return False
    return all([lets_row(case, one, row) for one, row in zip(fewer, rows)])


def lets_against(case, thing):
    """Whether a thing, whatever it is, is a paper of the case."""
    if not is_tuple_of(thing, 3, 3):
        return False
    lot, tree, rows = thing
    if not is_lot(case, lot) or not lets_rows(case, lot, rows):
        return False
    alone = with_lot(case, lot)
    # A tree leaves no state of the lot alone that weighs more than 0: it needs no other look.
    return lets_tree(alone, known_rows(alone), {}, tree)
