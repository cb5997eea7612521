"""Peeling: the weight of a case, one thing after another."""

from crossmarks.casetables import tables_of
from crossmarks.orders import need_order
from crossmarks.shares import product
from crossmarks.tables import joined, summed_out, whole


def joined_for(tables, thing):
    """The table of all tables that have a thing, joined as they stand."""
    having = [table for table in tables if thing in table[0]]
    result = having[0]
    for table in having[1:]:
        result = joined(result, table)
    return result


def peeled(case, order):
    """The weight of the case, and the room that this order needs; NoOrder of what is no order."""
    need_order(case, order)
    tables = tables_of(case)
    room = 0
    for thing in order:
        together = joined_for(tables, thing)
        room = max(room, len(together[1]))
        tables = [table for table in tables if thing not in table[0]] + [summed_out(together, thing)]
    return (product([whole(table) for table in tables]), room)
