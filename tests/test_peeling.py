"""Point 10: peeling, and what point 3 says of it."""

import itertools
import random
import unittest
from fractions import Fraction

from crossmarks.cases import case_of
from crossmarks.casetables import tables_of
from crossmarks.orders import good_order, width
from crossmarks.peeling import peeled
from crossmarks.states import full_sum
from tests.samples import (
    HALVES, THIRDS, THREE, bare, brief_cases, plain_states, plain_things, plain_values, plain_weight, random_cases, told,
    ways, wide_cases)
from tests.support import Checks

LOW, HET, HIGH = ((0, 0),), ((0, 1),), ((1, 1),)
FAMILY = (None, None, (0, 1))
THINGS = (("pair", 0, 0), ("pair", 1, 0), ("pair", 2, 0), ("turn", 2, 0, 0), ("turn", 2, 1, 0))
KIN = (
    (None, None, (0, 1), (2, 0)), (None, None, (0, 1), (0, 1), (2, 3)), (None, None, (0, 1), None, (2, 3)),
    (None, None, (0, 1), (0, 1)), (None, None, None, (0, 1), (3, 2)),
)


def orders_of(case, chance, many):
    found = [tuple(plain_things(case)), tuple(plain_things(case)[::-1]), good_order(case)]
    for _ in range(many):
        things = plain_things(case)
        chance.shuffle(things)
        found.append(tuple(things))
    return found


def near_orders(case, chance, many):
    """Orders that are the good one but for some exchanges, none of which gets much wider."""
    good = list(good_order(case))
    found = [tuple(good)]
    for _ in range(many):
        order = list(good)
        for _ in range(4):
            one, other = chance.randrange(len(order)), chance.randrange(len(order))
            order[one], order[other] = order[other], order[one]
        if width(case, tuple(order)) <= 6:
            found.append(tuple(order))
    return found


def plain_peeled(case, order):
    """Share and room by the words of point 10, each row of values gone through; None where they are too many."""
    tables = [(things, {values: Fraction(*share) for values, share in rows}) for things, rows in tables_of(case)]
    room = 0
    for thing in order:
        having = [table for table in tables if thing in table[0]]
        things = sorted(set().union(*[set(table[0]) for table in having]))
        choices = [plain_values(case, one) for one in things]
        many = 1
        for values in choices:
            many *= len(values)
        if many > 40000:
            return None
        made, rows = {}, 0
        for values in itertools.product(*choices):
            worth = dict(zip(things, values))
            share = Fraction(1)
            for own, own_rows in having:
                share *= own_rows.get(tuple([worth[one] for one in own]), 0)
            if share:
                rows += 1
                key = tuple([worth[one] for one in things if one != thing])
                made[key] = made.get(key, 0) + share
        room = max(room, rows)
        tables = [table for table in tables if thing not in table[0]]
        tables.append((tuple([one for one in things if one != thing]), made))
    share = Fraction(1)
    for things, rows in tables:
        share *= rows.get((), 0)
    return (told(share), room)


class PeeledTest(Checks):
    def test_founders_by_hand(self):
        pair = (("pair", 0, 0),)
        for mark, pairs, wanted in (
                (HALVES, None, ((1, 1), 4)), (THREE, None, ((1, 1), 9)), (THIRDS, HET, ((4, 9), 2)),
                (THIRDS, LOW, ((1, 9), 1)), (THREE, ((0, 0), (1, 2)), ((13, 36), 3))):
            seen = () if pairs is None else ((0, 0, pairs),)
            self.assertEqual(peeled(case_of((None,), (mark,), seen=seen), pair), wanted)
        case = case_of((None, None), (HALVES,), seen=((0, 0, LOW), (1, 0, HET)))
        self.assertEqual(peeled(case, (("pair", 0, 0), ("pair", 1, 0))), ((1, 8), 2))
        case = case_of((None,), (HALVES, THREE), gaps=((1, 10),))
        for order in itertools.permutations(plain_things(case)):
            self.assertEqual(peeled(case, order), ((1, 1), 9))

    def test_rooms_of_a_trio_by_hand(self):
        p0, p1, p2, t0, t1 = THINGS
        bare_case = case_of(FAMILY, (HALVES,))
        can_be = case_of(FAMILY, (HALVES,), seen=((0, 0, LOW), (1, 0, HIGH), (2, 0, HET)))
        can_not = case_of(FAMILY, (HALVES,), seen=((0, 0, LOW), (1, 0, LOW), (2, 0, HET)))
        for case, order, wanted in (
                (bare_case, (p0, p1, p2, t0, t1), ((1, 1), 16)), (bare_case, (t0, t1, p0, p1, p2), ((1, 1), 16)),
                (bare_case, (p2, p0, p1, t0, t1), ((1, 1), 64)), (bare_case, (p2, t1, t0, p1, p0), ((1, 1), 64)),
                (can_be, (p0, p1, p2, t0, t1), ((1, 16), 4)), (can_be, (t0, t1, p0, p1, p2), ((1, 16), 16)),
                (can_not, (p0, p1, p2, t0, t1), ((0, 1), 4)), (can_not, (p2, p0, p1, t0, t1), ((0, 1), 32))):
            self.assertEqual(peeled(case, order), wanted)

    def test_rooms_over_a_gap_by_hand(self):
        seen = [(member, mark, LOW) for member in range(3) for mark in range(2)]
        pairs = [("pair", member, mark) for member in range(3) for mark in range(2)]
        turns = [("turn", 2, side, mark) for mark in range(2) for side in range(2)]
        for gap, room in (((0, 1), 4), ((1, 10), 8), ((1, 2), 8)):
            case = case_of(FAMILY, (HALVES, HALVES), gaps=(gap,), seen=seen)
            self.assertEqual(peeled(case, tuple(pairs + turns)), ((1, 256), room))

    def test_three_kinds_by_hand(self):
        case = case_of(FAMILY, (THREE,))
        p0, p1, p2, t0, t1 = THINGS
        self.assertEqual(peeled(case, (p0, p1, p2, t0, t1)), ((1, 1), 54))
        self.assertEqual(peeled(case, (p2, p0, p1, t0, t1)), ((1, 1), 324))

    def test_rooms_by_the_words(self):
        chance = random.Random(6)
        many = 0
        for case in random_cases(60, 300, 22) + [case_of(family, (HALVES,)) for family in KIN]:
            for order in orders_of(case, chance, 2):
                wanted = plain_peeled(case, order)
                if wanted is not None:
                    many += 1
                    self.assertEqual(peeled(case, order), wanted)
        self.assertGreater(many, 150)

    def test_every_order_of_a_trio(self):
        for seen in ((), ((2, 0, HET),), ((0, 0, HET), (2, 0, LOW)), ((0, 0, LOW), (2, 0, HIGH))):
            case = case_of(FAMILY, (THIRDS,), seen=seen)
            weight = full_sum(case)
            for order in itertools.permutations(THINGS):
                share, room = peeled(case, order)
                self.assertEqual(share, weight)
                self.assertEqual((share, room), plain_peeled(case, order))

    def test_the_share_by_the_words(self):
        chance = random.Random(7)
        for case in brief_cases(25):
            wanted = told(sum([plain_weight(case, state) for state in plain_states(case)]))
            for order in orders_of(case, chance, 3):
                self.assertEqual(peeled(case, order)[0], wanted)

    def test_whatever_the_order(self):
        chance = random.Random(8)
        for case in random_cases(60, 400, 23):
            before = repr(case)
            weight = full_sum(case)
            for order in orders_of(case, chance, 3):
                if width(case, order) <= 7:
                    kept = repr(order)
                    self.assertEqual(peeled(case, order)[0], weight)
                    self.assertEqual(repr(order), kept)
            self.assertEqual(repr(case), before)

    def test_cases_of_thousands_of_ways(self):
        chance = random.Random(9)
        cases = wide_cases(25, 1000, 24)
        self.assertGreater(max([ways(case) for case in cases]), 4000)
        for case in cases:
            weight = full_sum(case)
            for order in near_orders(case, chance, 4):
                self.assertEqual(peeled(case, order)[0], weight)

    def test_nothing_seen(self):
        for case in random_cases(40, 10 ** 6, 25) + [case_of(family, (HALVES,)) for family in KIN]:
            case = bare(case)
            self.assertEqual(peeled(case, good_order(case))[0], (1, 1))

    def test_cases_that_can_not_be(self):
        chance = random.Random(10)
        seen = [(0, 0, LOW), (1, 0, LOW), (2, 0, HET)]
        for family in KIN:
            if family[2] == (0, 1):
                for gaps, marks in (((), (HALVES,)), (((0, 1),), (HALVES, THIRDS))):
                    case = case_of(family, marks, gaps=gaps, seen=seen)
                    for order in near_orders(case, chance, 4):
                        self.assertEqual(peeled(case, order)[0], (0, 1))

    def test_two_children_over_gaps(self):
        family = (None, None, (0, 1), (0, 1))
        seen = [(0, 0, HET), (0, 1, HET), (1, 0, LOW), (1, 1, LOW), (2, 0, LOW), (2, 1, LOW), (3, 0, LOW), (3, 1, HET)]
        chance = random.Random(11)
        for gap in ((0, 1), (1, 2), (1, 10), (123, 4567)):
            share = Fraction(*gap)
            case = case_of(family, (HALVES, HALVES), gaps=(gap,), seen=seen)
            for order in near_orders(case, chance, 3):
                self.assertEqual(peeled(case, order)[0], told(2 * share * (1 - share) / 512))

    def test_three_marks(self):
        seen = [(0, mark, HET) for mark in range(3)] + [(1, mark, LOW) for mark in range(3)]
        low = [(2, mark, LOW) for mark in range(2)]
        chance = random.Random(12)
        for gaps in (((0, 1), (0, 1)), ((1, 5), (1, 3)), ((1, 2), (0, 1))):
            case = case_of(FAMILY, (HALVES,) * 3, gaps=gaps, seen=seen + low)
            for order in near_orders(case, chance, 3):
                self.assertEqual(peeled(case, order)[0], (1, 8 * 64 * 4))

    def test_the_room_is_bounded_by_the_width(self):
        chance = random.Random(13)
        for case in random_cases(60, 300, 26):
            for order in orders_of(case, chance, 2):
                if width(case, order) <= 7:
                    room = peeled(case, order)[1]
                    self.assertGreater(room, 0)
                    self.assertLessEqual(room, 9 ** width(case, order))

    def test_by_place_and_by_name(self):
        case = case_of(FAMILY, (HALVES,))
        self.assertEqual(peeled(order=THINGS, case=case), peeled(case, THINGS))
        self.assertEqual(peeled(case, order=THINGS), ((1, 1), 16))


if __name__ == "__main__":
    unittest.main()
