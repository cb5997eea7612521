"""Point 13: lots that can't be, and what point 3 says of them."""

import itertools
import random
import unittest

from crossmarks.cases import case_of
from crossmarks.lots import can_be, least_lot
from crossmarks.states import full_sum
from tests.samples import (
    FAMILIES, HALVES, THIRDS, THREE, WIDE_FAMILIES, bare, brief_cases, plain_states, plain_weight, random_cases,
    sorted_pairs, ways)
from tests.support import Checks
from tests.unfit import SPLIT, alone, lots_by_size, pressed_cases

LOW, HET, HIGH = ((0, 0),), ((0, 1),), ((1, 1),)
TRIO = (None, None, (0, 1))
GRANDCHILD = (None, None, (0, 1), None, (2, 3))


class CanBeTest(Checks):
    def test_by_hand(self):
        case = case_of(TRIO, (HALVES,), seen=((0, 0, LOW), (1, 0, LOW), (2, 0, HET)))
        for lot in lots_by_size(3):
            self.assertIs(can_be(case, lot), lot != (0, 1, 2))

    def test_each_lot_by_the_words(self):
        for case in brief_cases(25, 400, 41):
            seen = case[2]
            for lot in lots_by_size(len(seen)):
                part = alone(case, lot)
                wanted = any([plain_weight(part, state) for state in plain_states(part)])
                self.assertIs(can_be(case, lot), wanted)

    def test_the_empty_one_and_all(self):
        for case in random_cases(40, 1000, 42) + pressed_cases(20, 42):
            before = repr(case)
            self.assertIs(can_be(case, tuple(range(len(case[2])))), full_sum(case) != (0, 1))
            if ways(bare(case)) <= 5000:
                self.assertIs(can_be(case, ()), True)
            self.assertEqual(repr(case), before)

    def test_linked_marks(self):
        # Without crossing, two children that are alike at the one mark are alike at the other.
        family = (None, None, (0, 1), (0, 1))
        seen = [(0, 0, HET), (0, 1, HET), (1, 0, LOW), (1, 1, LOW), (2, 0, LOW), (2, 1, LOW), (3, 0, LOW), (3, 1, HET)]
        for gap, wanted in (((0, 1), False), ((1, 10), True), ((1, 2), True)):
            case = case_of(family, (HALVES, HALVES), gaps=(gap,), seen=seen)
            self.assertIs(can_be(case, tuple(range(8))), wanted)
            self.assertIs(can_be(case, (0, 1, 2, 3, 4, 5, 6)), True)

    def test_by_name(self):
        case = case_of((None,), (HALVES,), seen=((0, 0, LOW),))
        self.assertIs(can_be(lot=(0,), case=case), True)


class LeastLotTest(Checks):
    def assert_least(self, case):
        """The told lot is the first of as few as can be, each lot asked for."""
        before = repr(case)
        lots = [lot for lot in lots_by_size(len(case[2])) if full_sum(alone(case, lot)) == (0, 1)]
        self.assertEqual(least_lot(case), lots[0] if lots else None)
        self.assertEqual(repr(case), before)

    def test_by_hand(self):
        for seen, wanted in (
                ((), None), (((2, 0, HET),), None), (((0, 0, LOW), (2, 0, HET)), None),
                (((0, 0, LOW), (2, 0, HIGH)), (0, 1)), (((0, 0, LOW), (1, 0, LOW), (2, 0, HET)), (0, 1, 2)),
                (((0, 0, LOW), (1, 0, LOW), (2, 0, HIGH)), (0, 2)), (((0, 0, HET), (1, 0, LOW), (2, 0, HIGH)), (1, 2)),
                (((0, 0, LOW + HET), (1, 0, LOW), (2, 0, HIGH)), (1, 2))):
            self.assertEqual(least_lot(case_of(TRIO, (HALVES,), seen=seen)), wanted)

    def test_a_lot_behind_others(self):
        seen = ((0, 0, HET), (0, 1, LOW), (1, 0, HET), (1, 1, LOW), (2, 0, HET), (2, 1, HET))
        self.assertEqual(least_lot(case_of(TRIO, (HALVES, HALVES), gaps=((1, 3),), seen=seen)), (1, 3, 5))

    def test_a_childs_child(self):
        seen = ((0, 0, LOW), (1, 0, LOW), (4, 0, HIGH))
        self.assertEqual(least_lot(case_of(GRANDCHILD, (HALVES,), seen=seen)), (0, 1, 2))

    def test_children_alone(self):
        self.assertEqual(least_lot(SPLIT), (0, 1, 2))

    def test_one_seen_can_always_be(self):
        for family in set(FAMILIES + WIDE_FAMILIES):
            for mark in (HALVES, THREE):
                for member in range(len(family)):
                    for pair in sorted_pairs(len(mark)):
                        case = case_of(family, (mark,), seen=((member, 0, (pair,)),))
                        if ways(bare(case)) <= 12000:
                            self.assertIs(can_be(case, (0,)), True)
                            self.assertIsNone(least_lot(case))

    def test_by_the_words(self):
        cases = pressed_cases(60, 43)
        for case in cases:
            self.assert_least(case)
        sizes = {len(least_lot(case) or ()) for case in cases}
        self.assertTrue({0, 2, 3} <= sizes)

    def test_none_where_the_case_can_be(self):
        for case in random_cases(60, 5000, 44):
            if full_sum(case) != (0, 1) and ways(bare(case)) <= 5000:
                self.assertIsNone(least_lot(case))

    def test_the_first_of_several(self):
        chance = random.Random(45)
        family = (None, None, (0, 1), (0, 1), (0, 1))
        for _ in range(15):
            seen = [(member, 0, (chance.choice(sorted_pairs(3)),)) for member in range(5)]
            case = case_of(family, (THREE,), seen=seen)
            self.assert_least(case)

    def test_all_trios(self):
        pairs = [LOW, HET, HIGH, LOW + HET, LOW + HIGH, HET + HIGH, LOW + HET + HIGH]
        for one, other, child in itertools.product(pairs, repeat=3):
            self.assert_least(case_of(TRIO, (THIRDS,), seen=((0, 0, one), (1, 0, other), (2, 0, child))))

    def test_by_name(self):
        self.assertIsNone(least_lot(case=case_of((None,), (HALVES,))))


if __name__ == "__main__":
    unittest.main()
