"""Point 9: the tables of a case."""

import itertools
import unittest
from fractions import Fraction

from crossmarks.casetables import tables_of
from crossmarks.cases import case_of
from crossmarks.shares import ONE, product
from crossmarks.states import full_sum, state_weight, states_of
from crossmarks.tables import is_table, joined, summed_out, whole
from tests.samples import HALVES, THIRDS, how_many_states, plain_states, plain_things, random_cases, told
from tests.support import Checks

TRIO = (None, None, (1, 0))
HALF = (1, 2)


def wanted_tables(case):
    """The tables by the words of point 9."""
    family, (marks, gaps), seen = case
    found = []

    def pairs_at(number):
        return sorted(itertools.product(range(len(marks[number])), repeat=2))

    for member, elders in enumerate(family):
        for number, mark in enumerate(marks):
            if elders is None:
                rows = [((pair,), told(Fraction(*mark[pair[0]]) * Fraction(*mark[pair[1]]))) for pair in pairs_at(number)]
                found.append(((("pair", member, number),), tuple(rows)))
                continue
            for side in (0, 1):
                things = {"own": ("pair", member, number), "turn": ("turn", member, side, number),
                          "elder": ("pair", elders[side], number)}
                order = sorted(things, key=lambda word: things[word])
                rows = []
                for own, turn, above in itertools.product(pairs_at(number), (0, 1), pairs_at(number)):
                    if own[side] == above[turn]:
                        values = {"own": own, "turn": turn, "elder": above}
                        rows.append((tuple([values[word] for word in order]), ONE))
                found.append((tuple(sorted(things.values())), tuple(sorted(rows))))
    for member, elders in enumerate(family):
        if elders is None:
            continue
        for side in (0, 1):
            found.append(((("turn", member, side, 0),), (((0,), HALF), ((1,), HALF))))
            for number, gap in enumerate(gaps):
                share = Fraction(*gap)
                rows = [((0, 0), 1 - share), ((0, 1), share), ((1, 0), share), ((1, 1), 1 - share)]
                found.append(((("turn", member, side, number), ("turn", member, side, number + 1)),
                              tuple([(turns, told(number2)) for turns, number2 in rows if number2 != 0])))
    for member, number, pairs in seen:
        rows = [((pair,), ONE) for pair in pairs_at(number) if tuple(sorted(pair)) in pairs]
        found.append(((("pair", member, number),), tuple(rows)))
    return found


def row_shares(tables, worth):
    """What each table has for a state, None where it has no row."""
    return [dict(rows).get(tuple([worth[thing] for thing in things])) for things, rows in tables]


class TablesTest(Checks):
    def test_one_founder_by_hand(self):
        case = case_of((None,), (THIRDS,), seen=((0, 0, ((0, 1),)),))
        pair = ("pair", 0, 0)
        self.assertEqual(tables_of(case), [
            ((pair,), ((((0, 0),), (1, 9)), (((0, 1),), (2, 9)), (((1, 0),), (2, 9)), (((1, 1),), (4, 9)))),
            ((pair,), ((((0, 1),), ONE), (((1, 0),), ONE))),
        ])

    def test_the_order_by_hand(self):
        case = case_of(TRIO, (HALVES, HALVES), gaps=((0, 1),), seen=((0, 1, ((0, 0),)), (2, 0, ((1, 1),))))
        self.assertEqual([things for things, rows in tables_of(case)], [
            (("pair", 0, 0),), (("pair", 0, 1),), (("pair", 1, 0),), (("pair", 1, 1),),
            (("pair", 1, 0), ("pair", 2, 0), ("turn", 2, 0, 0)), (("pair", 0, 0), ("pair", 2, 0), ("turn", 2, 1, 0)),
            (("pair", 1, 1), ("pair", 2, 1), ("turn", 2, 0, 1)), (("pair", 0, 1), ("pair", 2, 1), ("turn", 2, 1, 1)),
            (("turn", 2, 0, 0),), (("turn", 2, 0, 0), ("turn", 2, 0, 1)),
            (("turn", 2, 1, 0),), (("turn", 2, 1, 0), ("turn", 2, 1, 1)),
            (("pair", 0, 1),), (("pair", 2, 0),),
        ])
        self.assertEqual(tables_of(case)[9][1], (((0, 0), ONE), ((1, 1), ONE)))
        self.assertEqual(tables_of(case)[8][1], (((0,), HALF), ((1,), HALF)))
        self.assertEqual(tables_of(case)[4][1][:4], (
            (((0, 0), (0, 0), 0), ONE), (((0, 0), (0, 0), 1), ONE), (((0, 0), (0, 1), 0), ONE),
            (((0, 0), (0, 1), 1), ONE)))

    def test_gaps(self):
        for gap, rows in (
                ((0, 1), (((0, 0), ONE), ((1, 1), ONE))),
                ((1, 2), (((0, 0), HALF), ((0, 1), HALF), ((1, 0), HALF), ((1, 1), HALF))),
                ((1, 10), (((0, 0), (9, 10)), ((0, 1), (1, 10)), ((1, 0), (1, 10)), ((1, 1), (9, 10))))):
            case = case_of(TRIO, (HALVES, HALVES), gaps=(gap,))
            self.assertEqual(tables_of(case)[9][1], rows)
            self.assertEqual(tables_of(case)[11][1], rows)

    def test_by_the_words(self):
        for case in random_cases(120, 10 ** 9, 12):
            before = repr(case)
            tables = tables_of(case)
            self.assertEqual(tables, wanted_tables(case))
            self.assert_all_true(is_table, tables)
            self.assertEqual(repr(case), before)

    def test_no_row_of_nought(self):
        for case in random_cases(40, 10 ** 9, 13):
            for things, rows in tables_of(case):
                self.assertNotIn((0, 1), [share for values, share in rows])

    def test_the_product_is_the_weight_of_each_state(self):
        cases = [case for case in random_cases(600, 5000, 14) if how_many_states(case) <= 5000]
        self.assertGreater(len(cases), 20)
        for case in cases[:30]:
            tables = tables_of(case)
            for state in plain_states(case):
                shares = row_shares(tables, dict(zip(plain_things(case), state)))
                weight = state_weight(case, state)
                self.assertEqual(None in shares, weight == (0, 1))
                if None not in shares:
                    self.assertEqual(product(shares), weight)

    def test_the_product_in_larger_cases(self):
        for case in random_cases(15, 5000, 15):
            tables = tables_of(case)
            for state, weight in states_of(case)[::11]:
                shares = row_shares(tables, dict(zip(plain_things(case), state)))
                self.assertEqual(product(shares), weight)

    def test_joined_and_summed_out_they_come_to_the_weight_of_the_case(self):
        for case in random_cases(30, 300, 16):
            table = ((), (((), ONE),))
            tables = tables_of(case)
            for thing in plain_things(case):
                for other in [one for one in tables if thing in one[0]]:
                    table = joined(table, other)
                tables = [one for one in tables if thing not in one[0]]
                table = summed_out(table, thing)
            self.assertEqual(whole(table), full_sum(case))

    def test_the_list_is_the_askers_own(self):
        case = case_of(TRIO, (HALVES,))
        tables_of(case).clear()
        tables_of(case)[0] = None
        self.assertEqual(tables_of(case), wanted_tables(case))

    def test_by_name(self):
        self.assertEqual(len(tables_of(case=case_of((None, None), (HALVES,)))), 2)


if __name__ == "__main__":
    unittest.main()
