"""Point 20: exchanges, and where they lead an order."""

import itertools
import random
import unittest

from crossmarks.columns import best_orders, crossings
from crossmarks.exchanges import exchanges_of, led
from tests.support import Checks
from tests.test_columns import ROWS, many_rows, plain_crossings


def plain_exchanges(order):
    """The exchanges of an order, by the words of point 20."""
    found = []
    for first, last in itertools.combinations(range(len(order)), 2):
        places = list(range(len(order)))
        places[first:last + 1] = range(last, first - 1, -1)
        found.append(tuple([order[place] for place in places]))
    return found


def plain_led(rows, order):
    """Where an order comes to, by the words of point 20."""
    many = 0
    while True:
        fewer = [other for other in plain_exchanges(order) if plain_crossings(rows, other) < plain_crossings(rows, order)]
        if not fewer:
            return (order, many)
        order = fewer[0]
        many += 1


class ExchangesTest(Checks):
    def test_by_hand(self):
        self.assertEqual(exchanges_of((0, 1)), [(1, 0)])
        self.assertEqual(exchanges_of((1, 0)), [(0, 1)])
        self.assertEqual(exchanges_of((0, 1, 2)), [(1, 0, 2), (2, 1, 0), (0, 2, 1)])
        self.assertEqual(exchanges_of((2, 0, 3, 1)), [
            (0, 2, 3, 1), (3, 0, 2, 1), (1, 3, 0, 2), (2, 3, 0, 1), (2, 1, 3, 0), (2, 0, 1, 3)])

    def test_by_the_words(self):
        for columns in range(2, 7):
            for order in itertools.permutations(range(columns)):
                told = exchanges_of(order)
                self.assertEqual(told, plain_exchanges(order))
                self.assertEqual(len(told), columns * (columns - 1) // 2)

    def test_the_list_is_the_askers_own(self):
        exchanges_of((0, 1, 2)).clear()
        self.assertEqual(len(exchanges_of((0, 1, 2))), 3)

    def test_by_name(self):
        self.assertEqual(exchanges_of(order=(0, 1)), [(1, 0)])


class LedTest(Checks):
    def test_by_hand(self):
        for rows, order, wanted in (
                (((0, 1),), (0, 1), ((0, 1), 0)), (((0, 1),), (1, 0), ((1, 0), 0)),
                (((0, 1, 0),), (0, 1, 2), ((1, 0, 2), 1)), (((0, 1, 0),), (2, 1, 0), ((1, 2, 0), 1)),
                (((0, 1, 0),), (2, 0, 1), ((2, 0, 1), 0)), (((None, None, None),), (2, 0, 1), ((2, 0, 1), 0)),
                (((0, 1, 0, 1),), (0, 1, 2, 3), ((2, 0, 1, 3), 2)), (ROWS, (0, 2, 1), ((2, 0, 1), 1))):
            self.assertEqual(led(rows, order), wanted)

    def test_by_the_words(self):
        chance = random.Random(5)
        most = 0
        for rows in many_rows(60, 6):
            before = repr(rows)
            for _ in range(4):
                order = tuple(chance.sample(range(len(rows[0])), len(rows[0])))
                self.assertEqual(led(rows, order), plain_led(rows, order))
                most = max(most, led(rows, order)[1])
            self.assertEqual(repr(rows), before)
        self.assertGreater(most, 2)

    def test_no_exchange_of_it_has_fewer(self):
        chance = random.Random(7)
        for rows in many_rows(40, 8):
            order = tuple(chance.sample(range(len(rows[0])), len(rows[0])))
            end, many = led(rows, order)
            count = crossings(rows, end)
            self.assertFalse([other for other in exchanges_of(end) if crossings(rows, other) < count])
            self.assertEqual(led(rows, end), (end, 0))
            self.assertEqual(many == 0, end == order)
            self.assertGreaterEqual(crossings(rows, order) - count, many)
            self.assertLessEqual(best_orders(rows)[0], count)

    def test_none_from_a_best_order(self):
        for rows in many_rows(20, 9):
            for order in best_orders(rows)[1][:5]:
                self.assertEqual(led(rows, order), (order, 0))
                self.assertEqual(led(rows, order[::-1]), (order[::-1], 0))

    def test_by_name(self):
        self.assertEqual(led(order=(0, 2, 1), rows=ROWS), ((2, 0, 1), 1))


if __name__ == "__main__":
    unittest.main()
