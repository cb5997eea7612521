"""Peeling: the weight of a case, one thing after another."""

from crossmarks.casetables import tables_of
from crossmarks.orders import need_order
from crossmarks.shares import product
from crossmarks.tables import joined, summed_out, whole


def joined_all(tables):
    """The table of some tables, at least one, joined as they stand."""
    result = tables[0]
    for table in tables[1:]:
        result = joined(result, table)
    return result


def joined_for(tables, thing):
    """The table of all tables that have a thing, joined as they stand."""
    return joined_all([table for table in tables if thing in table[0]])


def tables_behind(tables, thing, made):
    """The tables that stand once a thing is peeled, the one made for it last."""
    return [table for table in tables if thing not in table[0]] + [made]


def peeled_away(tables, things):
    """The tables that stand once some things are peeled, and the room that this needs."""
    room = 0
    for thing in things:
        together = joined_for(tables, thing)
        room = max(room, len(together[1]))
        tables = tables_behind(tables, thing, summed_out(together, thing))
    return (tables, room)


def whole_of(tables):
    """The product of tables without things."""
    return product([whole(table) for table in tables])


def peeled(case, order):
    """The weight of the case, and the room that this order needs; NoOrder of what is no order."""
    need_order(case, order)
    tables, room = peeled_away(tables_of(case), order)
    return (whole_of(tables), room)


def peeled_to(case, order, thing):
    """The table of one thing alone: the weights of the case held at each of its values."""
    tables, room = peeled_away(tables_of(case), [other for other in order if other != thing])
    return joined_all(tables)
