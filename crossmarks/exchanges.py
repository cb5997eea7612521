"""Exchanges: stretches of an order turned about, to make its crossings fewer."""

from crossmarks.columns import crossings


def turned_about(order, first, last):
    """The order with the stretch from one place to another turned about."""
    return order[:first] + order[first:last + 1][::-1] + order[last + 1:]


def exchanges_of(order):
    """The list of the exchanges of an order, by their two places, rising."""
    many = len(order)
    return [turned_about(order, first, last) for first in range(many) for last in range(first + 1, many)]


def first_fewer(rows, order):
    """The first exchange of an order that has fewer crossings, None where none has."""
    count = crossings(rows, order)
    for other in exchanges_of(order):
        if crossings(rows, other) < count:
            return other
    return None


def led(rows, order):
    """Where an order comes to by the first exchange that makes it fewer, again and again, and how many there were."""
    many = 0
    better = first_fewer(rows, order)
    while better is not None:
        order = better
        many += 1
        better = first_fewer(rows, order)
    return (order, many)
