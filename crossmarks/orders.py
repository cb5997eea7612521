"""Orders of the things of a case, to peel them in."""

from crossmarks.casetables import tables_of
from crossmarks.errors import NoOrder
from crossmarks.plain import is_tuple_of
from crossmarks.things import is_thing, things_of


def is_order(case, thing):
    """Whether a thing, whatever it is, is a tuple of all things of the case, each once."""
    many = len(things_of(case))
    if not is_tuple_of(thing, many, many) or not all([is_thing(case, one) for one in thing]):
        return False
    return len(set(thing)) == many


def need_order(case, thing):
    """Refuses a thing, whatever it is, with NoOrder where it is no order of the case."""
    if not is_order(case, thing):
        raise NoOrder("an order is a tuple of all things of the case, each once")


def scopes_of(case):
    """The things of each table of the case."""
    return [things for things, rows in tables_of(case)]


def joined_scope(scopes, thing):
    """The rising list of the things of all tables that have this one."""
    return sorted({other for scope in scopes if thing in scope for other in scope})


def scopes_behind(scopes, thing):
    """The things of each table that stands once a thing is peeled."""
    made = tuple([other for other in joined_scope(scopes, thing) if other != thing])
    return [scope for scope in scopes if thing not in scope] + [made]


def thinnest(scopes, things):
    """The first of some things whose joined table has the fewest things."""
    return min(things, key=lambda thing: len(joined_scope(scopes, thing)))


def good_order(case):
    """The order that takes each time the thing whose joined table has the fewest things."""
    scopes = scopes_of(case)
    left = things_of(case)
    order = []
    while left:
        thing = thinnest(scopes, left)
        order.append(thing)
        left = [other for other in left if other != thing]
        scopes = scopes_behind(scopes, thing)
    return tuple(order)


def width(case, order):
    """The greatest number of things of a joined table; NoOrder of what is no order."""
    need_order(case, order)
    scopes = scopes_of(case)
    most = 0
    for thing in order:
        most = max(most, len(joined_scope(scopes, thing)))
        scopes = scopes_behind(scopes, thing)
    return most


def first_in(order, things):
    """The first of some things in an order, None where there are none."""
    for thing in order:
        if thing in things:
            return thing
    return None


def joining_things(case, order):
    """By each thing the one whose peeling joins the table made for it, None where that is left without things."""
    scopes = scopes_of(case)
    joins = {}
    for thing in order:
        scopes = scopes_behind(scopes, thing)
        # The table that was made stands last.
        joins[thing] = first_in(order, scopes[-1])
    return joins
