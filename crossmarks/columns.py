"""Orders of marks: how often strings cross over in them."""

from crossmarks.plain import is_below, is_tuple_of

MOST_ROWS = 12
FEWEST_COLUMNS = 2
MOST_COLUMNS = 6


def is_string_row(thing, columns):
    """Whether a thing, whatever it is, is a tuple of so many, each 0, 1 or None."""
    return is_tuple_of(thing, columns, columns) and all([one is None or is_below(one, 2) for one in thing])


def are_rows(thing):
    """Whether a thing, whatever it is, is a tuple of rows of strings that came down, all of as many columns."""
    if not is_tuple_of(thing, 1, MOST_ROWS) or not is_tuple_of(thing[0], FEWEST_COLUMNS, MOST_COLUMNS):
        return False
    columns = len(thing[0])
    return all([is_string_row(row, columns) for row in thing])


def row_crossings(row, order):
    """How many neighbours of a row are unlike in an order, among those that are known."""
    known = [row[column] for column in order if row[column] is not None]
    return len([at for at in range(len(known) - 1) if known[at] != known[at + 1]])


def crossings(rows, order):
    """How many crossings an order of the columns has, over all rows."""
    return sum([row_crossings(row, order) for row in rows])


def all_orders(columns):
    """The rising list of all orders of so many columns."""
    orders = [()]
    for step in range(columns):
        orders = [order + (column,) for order in orders for column in range(columns) if column not in order]
    return orders


def best_orders(rows):
    """The fewest crossings, and the rising list of all orders that have so many, each of both ways once."""
    # An order turned about has as many crossings, and the one that is less begins with the lesser end.
    orders = [order for order in all_orders(len(rows[0])) if order[0] < order[-1]]
    counts = [crossings(rows, order) for order in orders]
    fewest = min(counts)
    return (fewest, [order for order, count in zip(orders, counts) if count == fewest])
