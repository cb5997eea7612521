"""Tables: a share for each row of values of some things."""

from crossmarks.plain import is_below, is_from_nought, is_rising, is_tuple_of
from crossmarks.shares import NOUGHT, is_share, times, total
from crossmarks.things import has_form


def is_value(thing, value):
    """Whether a value, whatever it is, fits a thing of this form."""
    if thing[0] == "turn":
        return is_below(value, 2)
    return is_tuple_of(value, 2, 2) and all([is_from_nought(kind) for kind in value])


def is_row(things, row):
    """Whether a row, whatever it is, has a value for each thing, and a share unlike 0."""
    if not is_tuple_of(row, 2, 2):
        return False
    values, share = row
    if not is_tuple_of(values, len(things), len(things)):
        return False
    fits = all([is_value(thing, value) for thing, value in zip(things, values)])
    return fits and is_share(share) and share != NOUGHT


def are_things(thing):
    """Whether a thing, whatever it is, is a rising tuple of things of either form."""
    return isinstance(thing, tuple) and all([has_form(one) for one in thing]) and is_rising(thing)


def is_table(thing):
    """Whether a thing, whatever it is, is a table."""
    if not is_tuple_of(thing, 2, 2):
        return False
    things, rows = thing
    if not are_things(things) or not isinstance(rows, tuple):
        return False
    # Rising by values alone also tells that no two rows are alike in them.
    return all([is_row(things, row) for row in rows]) and is_rising([row[0] for row in rows])


def picked(row, places):
    """What stands in a row at these places."""
    return tuple([row[place] for place in places])


def grouped(rows, places):
    """The lists of rows of a table that are alike at these places, by what stands there."""
    groups = {}
    for row in rows:
        key = picked(row[0], places)
        if key not in groups:
            groups[key] = []
        groups[key].append(row)
    return groups


def joined(table, other):
    """The table of all things of either table, each row the product of both."""
    things = tuple(sorted(set(table[0]) | set(other[0])))
    common = [thing for thing in table[0] if thing in other[0]]
    places = [table[0].index(thing) for thing in common]
    groups = grouped(other[1], [other[0].index(thing) for thing in common])
    both = table[0] + other[0]
    order = [both.index(thing) for thing in things]
    rows = []
    for values, share in table[1]:
        for values2, share2 in groups.get(picked(values, places), []):
            rows.append((picked(values + values2, order), times(share, share2)))
    return (things, tuple(sorted(rows)))


def places_beside(table, thing):
    """The places of all things of a table but this one."""
    return [place for place in range(len(table[0])) if table[0][place] != thing]


def summed_out(table, thing):
    """The table without a thing, each row the sum over its values."""
    places = places_beside(table, thing)
    groups = grouped(table[1], places)
    sums = [(values, total([share for whole_row, share in groups[values]])) for values in groups]
    rows = [(values, share) for values, share in sums if share != NOUGHT]
    return (picked(table[0], places), tuple(sorted(rows)))


def held_at(table, thing, value):
    """The rows of a table that have this value of a thing, without it."""
    places = places_beside(table, thing)
    held = table[0].index(thing)
    rows = [(picked(values, places), share) for values, share in table[1] if values[held] == value]
    return (picked(table[0], places), tuple(rows))


def whole(table):
    """The share of a table without things."""
    return table[1][0][1] if table[1] else NOUGHT
