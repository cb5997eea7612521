"""Point 8: tables."""

import itertools
import random
import unittest
from fractions import Fraction

from crossmarks.shares import ONE
from crossmarks.tables import held_at, is_table, joined, summed_out, whole
from tests.samples import told
from tests.support import Checks, nested, of_other_kinds, whatever

PAIR = ("pair", 0, 0)
PAIR2 = ("pair", 1, 0)
TURN = ("turn", 2, 0, 0)
TURN2 = ("turn", 2, 1, 0)
THINGS = (PAIR, PAIR2, TURN, TURN2)
HALF = (1, 2)
EMPTY = ((), ())
UNIT = ((), (((), ONE),))
BIG = ((PAIR, TURN), ((((0, 0), 0), HALF), (((0, 0), 1), (1, 3)), (((0, 1), 0), (-2, 5)), (((1, 0), 1), (7, 1))))


def values_for(thing):
    return [0, 1] if thing[0] == "turn" else [(0, 0), (0, 1), (1, 0), (1, 1)]


def random_table(chance, things):
    """A table that has a row for some of the values, also of shares below 0."""
    rows = []
    for values in itertools.product(*[values_for(thing) for thing in things]):
        top = chance.choice((0, 0, 1, 1, -1, 2, 3))
        if top != 0:
            rows.append((values, told(Fraction(top, chance.choice((1, 2, 3, 6))))))
    return (tuple(things), tuple(rows))


def random_tables(many, seed=8):
    chance = random.Random(seed)
    found = []
    for _ in range(many):
        things = sorted(chance.sample(THINGS, chance.randrange(0, 4)))
        found.append(random_table(chance, things))
    return found


def worth(table, values):
    """What a table is worth where things have these values, by a dict."""
    rows = dict(table[1])
    return Fraction(*rows.get(tuple([values[thing] for thing in table[0]]), (0, 1)))


def by_words(things, worth_of):
    """The table of some things by a function of their values."""
    rows = []
    for values in itertools.product(*[values_for(thing) for thing in things]):
        number = worth_of(dict(zip(things, values)))
        if number != 0:
            rows.append((values, told(number)))
    return (tuple(things), tuple(rows))


class IsTableTest(Checks):
    def test_tables(self):
        self.assert_all_true(is_table, [
            EMPTY, UNIT, BIG, ((), (((), (-3, 7)),)), ((PAIR,), ()), ((TURN,), ()), (THINGS, ()),
            ((PAIR,), ((((0, 0),), ONE),)), ((PAIR,), ((((5, 3),), ONE), (((7, 0),), HALF))),
            ((TURN,), (((0,), HALF), ((1,), HALF))), ((TURN,), (((1,), (-1, 2)),)),
            ((("pair", 77, 10 ** 50),), ((((10 ** 50, 0),), (10 ** 99, 7)),)), ((("turn", 0, 1, 99),), ()),
        ])
        self.assert_all_true(is_table, random_tables(100))
        self.assertIs(is_table(thing=EMPTY), True)

    def test_things_that_do_not_rise(self):
        for things in itertools.product(THINGS, repeat=2):
            self.assertIs(is_table((things, ())), things[0] < things[1])
        for things in itertools.permutations(THINGS):
            self.assertIs(is_table((things, ())), things == THINGS)

    def test_things_that_are_none(self):
        self.assert_all_false(is_table, [((thing,), ()) for thing in (
            ("pairs", 0, 0), ("turn", 0, 0), ("pair", 0, 0, 0), ("pair", -1, 0), ("pair", 0, -1), ("turn", -1, 0, 0),
            ("turn", 0, 2, 0), ("turn", 0, -1, 0), ("turn", 0, 0, -1), ("pair", True, 0), ("pair", 0, False),
            ("turn", True, 0, 0), ("turn", 0, False, 0), ("turn", 0, True, 0), ("turn", 0, 0, True), ["pair", 0, 0],
            ("pair", "0", 0), ("pair", 0, None), ("pair", 0), ("pair",), (), None, "pair", 0, (0, 0, 0), {},
            ("turn", 0, 0, 0, 0), ("turn", 0), (("pair",), 0, 0))])
        self.assert_all_false(is_table, [(PAIR, ()), ([PAIR], ()), ((PAIR, None), ()), ((None, PAIR), ())])

    def test_numbers_beside_one_another(self):
        self.assert_all_true(is_table, [
            ((("pair", 2, 0), ("pair", 10, 0)), ()), ((("pair", 0, 9), ("pair", 0, 10)), ()),
            ((("turn", 2, 0, 0), ("turn", 10, 0, 0)), ()), ((("turn", 2, 1, 9), ("turn", 2, 1, 10)), ()),
            ((PAIR,), ((((9, 0),), ONE), (((10, 0),), ONE))), ((PAIR,), ((((0, 9),), ONE), (((0, 10),), ONE))),
        ])
        self.assert_all_false(is_table, [
            ((("pair", 10, 0), ("pair", 2, 0)), ()), ((("pair", 0, 10), ("pair", 0, 9)), ()),
            ((("turn", 10, 0, 0), ("turn", 2, 0, 0)), ()), ((("turn", 2, 1, 10), ("turn", 2, 1, 9)), ()),
            ((PAIR,), ((((10, 0),), ONE), (((9, 0),), ONE))), ((PAIR,), ((((0, 10),), ONE), (((0, 9),), ONE))),
        ])

    def test_rows_that_do_not_rise(self):
        rows = BIG[1]
        for other in itertools.permutations(rows):
            self.assertIs(is_table((BIG[0], other)), other == rows)
        self.assert_all_false(is_table, [
            (BIG[0], rows + rows[-1:]), ((TURN,), (((0,), HALF), ((0,), HALF))), ((), (((), ONE), ((), ONE))),
            ((TURN,), (((0,), (1, 3)), ((0,), HALF))), ((TURN,), (((0,), HALF), ((0,), (1, 3)))),
            ((), (((), (1, 3)), ((), HALF))),
        ])

    def test_values_that_do_not_fit(self):
        self.assert_all_false(is_table, [((TURN,), (((value,), ONE),)) for value in (
            2, -1, True, False, None, "0", (0,), (0, 0), [], 10 ** 99)])
        self.assert_all_false(is_table, [((PAIR,), (((value,), ONE),)) for value in (
            0, (0,), (0, 0, 0), (), (-1, 0), (0, -1), (True, 0), (0, False), [0, 0], None, "00", ("0", 0), (0, None))])
        self.assert_all_false(is_table, [
            ((PAIR, TURN), (((0, (0, 0)), ONE),)), ((PAIR, TURN), ((((0, 0),), ONE),)), ((TURN,), (((), ONE),)),
            ((TURN,), (((0, 0), ONE),)), ((), (((0,), ONE),)), ((TURN,), ((0, ONE),)), ((TURN,), (([0], ONE),)),
        ])

    def test_shares_that_are_none(self):
        for share in ((0, 1), (0, 2), (2, 4), (1, 0), (1, -2), (True, 1), (1, True), [1, 2], 1, None, "1/2", (1,),
                      (1, 2, 3), ("1", 2)):
            self.assert_all_false(is_table, [((), (((), share),)), ((TURN,), (((0,), HALF), ((1,), share)))])

    def test_parts_more_or_fewer(self):
        self.assert_all_false(is_table, [
            (), ((),), ((), (), ()), ((PAIR,),), ((), ((),)), ((), ((), ONE)), ((), (((),),)), ((), (((), ONE, ONE),)),
            ((), (PAIR,)), ((), ((ONE, ()),)), ((((0,), ONE),), (TURN,)),
        ])

    def test_lists_for_tuples(self):
        self.assert_all_false(is_table, [
            [(), ()], ([], ()), ((), []), ((), [((), ONE)]), ((), ([(), ONE],)), ((), (([], ONE),)),
            ((), (((), [1, 1]),)), ([TURN], (((0,), ONE),)), ((list(TURN),), (((0,), ONE),)),
        ])

    def test_other_kinds(self):
        self.assert_all_false(is_table, whatever())
        self.assert_all_false(is_table, [
            ("", ""), ((), ""), ("", ()), ((), None), (None, ()), ({}, ()), ((), {}), ((), 0), ((), (None,)),
            (nested(tuple, 29), ()), ((), nested(tuple, 29)), ((), (((), nested(list, 27)),)),
        ])
        for table in (UNIT, BIG, ((TURN,), (((0,), HALF), ((1,), HALF)))):
            self.assert_all_false(is_table, of_other_kinds(table))


class JoinedTest(Checks):
    def test_by_hand(self):
        one = ((TURN,), (((0,), HALF), ((1,), (1, 3))))
        other = ((TURN,), (((1,), (3, 4)),))
        self.assertEqual(joined(one, other), ((TURN,), (((1,), (1, 4)),)))
        apart = ((TURN2,), (((0,), (2, 1)), ((1,), (-1, 1))))
        self.assertEqual(joined(apart, one), ((TURN, TURN2), (
            ((0, 0), ONE), ((0, 1), (-1, 2)), ((1, 0), (2, 3)), ((1, 1), (-1, 3)))))
        self.assertEqual(joined(other=UNIT, table=one), one)
        self.assertEqual(joined(one, EMPTY), ((TURN,), ()))
        self.assertEqual(joined(UNIT, UNIT), UNIT)

    def test_by_the_words(self):
        tables = random_tables(40)
        for table, other in itertools.product(tables, repeat=2):
            before = repr((table, other))
            things = sorted(set(table[0]) | set(other[0]))
            found = joined(table, other)
            self.assertEqual(found, by_words(things, lambda values: worth(table, values) * worth(other, values)))
            self.assertIs(is_table(found), True)
            self.assertEqual(found, joined(other, table))
            self.assertEqual(repr((table, other)), before)

    def test_whatever_way_three_are_joined(self):
        tables = random_tables(24, 9)
        for one, two, three in zip(tables[::3], tables[1::3], tables[2::3]):
            wanted = joined(joined(one, two), three)
            for a, b, c in itertools.permutations((one, two, three)):
                self.assertEqual(joined(a, joined(b, c)), wanted)
                self.assertEqual(joined(joined(a, b), c), wanted)

    def test_numbers_rise_as_numbers(self):
        low, high = ("pair", 2, 0), ("pair", 10, 0)
        one = ((high,), ((((9, 9),), ONE), (((10, 0),), HALF)))
        other = ((low,), ((((0, 9),), ONE), (((0, 10),), HALF)))
        found = joined(one, other)
        self.assertEqual(found[0], (low, high))
        self.assertEqual([row[0] for row in found[1]], [
            ((0, 9), (9, 9)), ((0, 9), (10, 0)), ((0, 10), (9, 9)), ((0, 10), (10, 0))])
        self.assertIs(is_table(found), True)

    def test_no_rows(self):
        for table in random_tables(20):
            for things in ((), (TURN,), THINGS[:2]):
                self.assertEqual(joined(table, (things, ())), (tuple(sorted(set(table[0] + things))), ()))


class SummedOutTest(Checks):
    def test_by_hand(self):
        self.assertEqual(summed_out(BIG, TURN), (
            (PAIR,), ((((0, 0),), (5, 6)), (((0, 1),), (-2, 5)), (((1, 0),), (7, 1)))))
        self.assertEqual(summed_out(BIG, PAIR), ((TURN,), (((0,), (1, 10)), ((1,), (22, 3)))))
        self.assertEqual(summed_out(thing=TURN, table=((TURN,), ())), EMPTY)
        self.assertEqual(summed_out(((TURN,), (((0,), HALF), ((1,), HALF))), TURN), UNIT)

    def test_sums_that_come_to_nought(self):
        table = ((TURN,), (((0,), HALF), ((1,), (-1, 2))))
        self.assertEqual(summed_out(table, TURN), EMPTY)
        table = ((TURN, TURN2), (((0, 0), HALF), ((0, 1), ONE), ((1, 0), (-1, 2)), ((1, 1), ONE)))
        self.assertEqual(summed_out(table, TURN), ((TURN2,), (((1,), (2, 1)),)))

    def test_by_the_words(self):
        for table in random_tables(150):
            before = repr(table)
            for thing in table[0]:
                rest = [other for other in table[0] if other != thing]
                found = summed_out(table, thing)
                self.assertEqual(found, by_words(rest, lambda values: sum(
                    [worth(table, {**values, thing: value}) for value in values_for(thing)])))
                self.assertIs(is_table(found), True)
            self.assertEqual(repr(table), before)

    def test_the_sum_of_all_that_is_held(self):
        for table in random_tables(50):
            for thing in table[0]:
                parts = [held_at(table, thing, value) for value in values_for(thing)]
                rest = tuple([other for other in table[0] if other != thing])
                self.assertEqual(summed_out(table, thing), by_words(rest, lambda values: sum(
                    [worth(part, values) for part in parts])))


class HeldAtTest(Checks):
    def test_by_hand(self):
        self.assertEqual(held_at(BIG, TURN, 1), ((PAIR,), ((((0, 0),), (1, 3)), (((1, 0),), (7, 1)))))
        self.assertEqual(held_at(BIG, PAIR, (0, 1)), ((TURN,), (((0,), (-2, 5)),)))
        self.assertEqual(held_at(value=0, thing=TURN, table=((TURN,), (((0,), HALF),))), ((), (((), HALF),)))

    def test_a_value_that_no_row_has(self):
        self.assertEqual(held_at(BIG, PAIR, (1, 1)), ((TURN,), ()))
        self.assertEqual(held_at(BIG, PAIR, (9, 10)), ((TURN,), ()))
        self.assertEqual(held_at(((TURN,), ()), TURN, 0), EMPTY)

    def test_by_the_words(self):
        for table in random_tables(150):
            before = repr(table)
            for thing in table[0]:
                rest = [other for other in table[0] if other != thing]
                for value in values_for(thing):
                    found = held_at(table, thing, value)
                    self.assertEqual(found, by_words(rest, lambda values: worth(table, {**values, thing: value})))
                    self.assertIs(is_table(found), True)
            self.assertEqual(repr(table), before)


class WholeTest(Checks):
    def test_whole(self):
        self.assertEqual(whole(EMPTY), (0, 1))
        self.assertEqual(whole(UNIT), ONE)
        self.assertEqual(whole(table=((), (((), (-3, 7)),))), (-3, 7))

    def test_all_summed_out(self):
        for table in random_tables(60):
            wanted = told(sum([Fraction(*share) for values, share in table[1]]))
            for things in itertools.permutations(table[0]):
                rest = table
                for thing in things:
                    rest = summed_out(rest, thing)
                self.assertEqual(whole(rest), wanted)


if __name__ == "__main__":
    unittest.main()
