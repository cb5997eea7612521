"""Point 19: rows of strings that came down, and the orders of marks that have the fewest crossings."""

import itertools
import random
import unittest

from crossmarks.columns import are_rows, best_orders, crossings
from tests.support import Checks, nested, of_other_kinds, whatever

ROWS = ((0, 1, None), (1, 1, 0), (None, 0, 0))


def plain_are_rows(thing):
    """Whether a thing is rows, by the words of point 19."""
    if type(thing) is not tuple or not 1 <= len(thing) <= 12:
        return False
    for row in thing:
        if type(row) is not tuple or len(row) != len(thing[0]) or not 2 <= len(row) <= 6:
            return False
        if not all([one is None or (type(one) is int and one in (0, 1)) for one in row]):
            return False
    return True


def plain_crossings(rows, order):
    """How many crossings an order has, by the words of point 19."""
    many = 0
    for row in rows:
        last = None
        for column in order:
            if row[column] is not None:
                many += last is not None and last != row[column]
                last = row[column]
    return many


def random_rows(chance):
    columns = chance.randrange(2, 7)
    choices = chance.choice(((0, 1), (0, 1, None), (None, None, 0, 1), (0, 0, 0, 1)))
    return tuple([tuple([chance.choice(choices) for _ in range(columns)]) for _ in range(chance.randrange(1, 13))])


def many_rows(many, seed):
    chance = random.Random(seed)
    return [random_rows(chance) for _ in range(many)]


class AreRowsTest(Checks):
    def test_rows(self):
        self.assert_all_true(are_rows, [
            ROWS, ((0, 1),), ((None, None),), ((0,) * 6,), ((1, None) * 3,), ((0, 1),) * 12, ((None,) * 6,) * 12,
            ((0, 1, 0),) * 2])
        self.assert_all_true(are_rows, many_rows(60, 1))

    def test_how_many(self):
        for many in range(16):
            for columns in range(9):
                self.assertIs(are_rows(((0,) * columns,) * many), 1 <= many <= 12 and 2 <= columns <= 6)

    def test_no_rows_by_hand(self):
        self.assert_all_false(are_rows, [
            (), ((),), ((0,),), ((0,) * 7,), ((0, 1),) * 13, ((0, 1), (0, 1, 0)), ((0, 1, 0), (0, 1)), (0, 1),
            ((True, 0),), ((0, False),), ((0, 2),), ((-1, 0),), (("0", "1"),), ("01", "10"), [(0, 1)], ([0, 1],),
            ((0, 1), [0, 1]), {0: (0, 1)}, ({0: 0, 1: 1},), (((0, 1),),), (((0,), 1),), ((0, ""),), ((0, ()),),
            ((0, []),), ((0, {}),), ((0, 10 ** 99),), ((None,),), (None, None), None, "", 0, True, ((0, 1), None),
            ((0, nested(tuple, 28)),), (nested(list, 29), nested(list, 29))])

    def test_whatever_it_is(self):
        things = whatever() + of_other_kinds(ROWS) + of_other_kinds(((0, 1),))
        things += [(thing,) for thing in whatever()] + [(thing, thing) for thing in whatever()]
        things += [((0, thing),) for thing in whatever()]
        found = [plain_are_rows(thing) for thing in things]
        self.assertIn(True, found)
        for thing, wanted in zip(things, found):
            before = repr(thing)
            self.assertIs(are_rows(thing), wanted, thing)
            self.assertEqual(repr(thing), before)

    def test_by_name(self):
        self.assertIs(are_rows(thing=ROWS), True)


class CrossingsTest(Checks):
    def test_by_hand(self):
        for rows, order, wanted in (
                (((0, 1),), (0, 1), 1), (((0, 0),), (0, 1), 0), (((0, None),), (0, 1), 0),
                (((None, None),), (1, 0), 0), (((0, None, 1),), (0, 1, 2), 1), (((0, None, 0),), (0, 1, 2), 0),
                (((0, 1, 0),), (0, 1, 2), 2), (((0, 1, 0),), (0, 2, 1), 1), (((0, 1, 0),), (1, 0, 2), 1),
                (((0, None, None, 1, None, 0),), (0, 1, 2, 3, 4, 5), 2), (((None, 0, 1, None),), (3, 2, 0, 1), 1),
                (((0, 1), (1, 0), (1, 1)), (0, 1), 2), (((0, 1, 0, 1, 0, 1),) * 12, (0, 1, 2, 3, 4, 5), 60),
                (((0, 1, 0, 1, 0, 1),) * 12, (0, 2, 4, 5, 3, 1), 12), (ROWS, (0, 1, 2), 2), (ROWS, (0, 2, 1), 3)):
            self.assertEqual(crossings(rows, order), wanted)

    def test_by_the_words(self):
        chance = random.Random(2)
        for rows in many_rows(60, 3):
            before = repr(rows)
            for _ in range(6):
                order = tuple(chance.sample(range(len(rows[0])), len(rows[0])))
                self.assertEqual(crossings(rows, order), plain_crossings(rows, order))
                self.assertEqual(crossings(rows, order), crossings(rows, order[::-1]))
                self.assertEqual(crossings(rows, order), sum([crossings((row,), order) for row in rows]))
            self.assertEqual(repr(rows), before)

    def test_by_name(self):
        self.assertEqual(crossings(order=(0, 2, 1), rows=ROWS), 3)


class BestOrdersTest(Checks):
    def test_by_hand(self):
        self.assertEqual(best_orders(((0, 1),)), (1, [(0, 1)]))
        self.assertEqual(best_orders(((0, 0), (None, 1))), (0, [(0, 1)]))
        self.assertEqual(best_orders(((0, 1, 0),)), (1, [(0, 2, 1), (1, 0, 2)]))
        self.assertEqual(best_orders(((None,) * 3,)), (0, [(0, 1, 2), (0, 2, 1), (1, 0, 2)]))
        self.assertEqual(best_orders(((0, 1, 1), (0, 0, 1))), (2, [(0, 1, 2)]))
        self.assertEqual(best_orders(ROWS), (2, [(0, 1, 2), (1, 0, 2)]))

    def test_all_orders_where_all_have_as_many(self):
        for columns in range(2, 7):
            for row in ((None,) * columns, (1,) * columns, (0,) + (None,) * (columns - 1)):
                wanted = [order for order in itertools.permutations(range(columns)) if order < order[::-1]]
                self.assertEqual(best_orders((row, row)), (0, wanted))
                self.assertEqual(len(wanted), len(list(itertools.permutations(range(columns)))) // 2)

    def test_by_the_words(self):
        for rows in many_rows(40, 4) + [((0, 1, 0, 1, 1, 0), (None, 0, 1, 1, 0, 0), (1, 0, 0, 1, 0, 1))]:
            before = repr(rows)
            counts = {order: plain_crossings(rows, order) for order in itertools.permutations(range(len(rows[0])))}
            fewest = min(counts.values())
            wanted = sorted({min(order, order[::-1]) for order in counts if counts[order] == fewest})
            self.assertEqual(best_orders(rows), (fewest, wanted))
            self.assertEqual(repr(rows), before)

    def test_the_list_is_the_askers_own(self):
        fewest, orders = best_orders(ROWS)
        self.assertIsInstance(orders, list)
        orders.clear()
        self.assertEqual(best_orders(ROWS), (2, [(0, 1, 2), (1, 0, 2)]))

    def test_by_name(self):
        self.assertEqual(best_orders(rows=ROWS), best_orders(ROWS))


if __name__ == "__main__":
    unittest.main()
