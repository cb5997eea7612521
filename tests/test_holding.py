"""Point 12: holding, and what point 3 says of what is held."""

import itertools
import random
import unittest
from fractions import Fraction

from crossmarks.cases import case_of
from crossmarks.holding import held_weight, summed_over
from crossmarks.shares import is_share, total
from crossmarks.states import full_sum, states_of
from tests.samples import (
    HALVES, THIRDS, THREE, brief_cases, plain_states, plain_things, plain_values, plain_weight, random_cases, told,
    wide_cases)
from tests.support import Checks

LOW, HET = ((0, 0),), ((0, 1),)
TRIO = (None, None, (0, 1))


def plain_held(case, held):
    """The sum over just the states that have these values."""
    things = plain_things(case)
    weight = Fraction(0)
    for state in plain_states(case):
        if all([state[things.index(thing)] == value for thing, value in held]):
            weight += plain_weight(case, state)
    return told(weight)


def some_held(case, chance, many):
    things = sorted(chance.sample(plain_things(case), min(many, len(plain_things(case)))))
    return tuple([(thing, chance.choice(plain_values(case, thing))) for thing in things])


class HeldWeightTest(Checks):
    def test_by_hand(self):
        case = case_of(TRIO, (THIRDS,), seen=((2, 0, HET),))
        for held, wanted in (
                ((), (4, 9)), (((("pair", 0, 0), (0, 0)),), (2, 27)), (((("pair", 2, 0), (0, 1)),), (2, 9)),
                (((("pair", 2, 0), (0, 0)),), (0, 1)), (((("turn", 2, 0, 0), 1),), (2, 9)),
                (((("turn", 2, 0, 0), 0), (("turn", 2, 1, 0), 1)), (1, 9)),
                (((("pair", 0, 0), (0, 0)), (("pair", 1, 0), (0, 0))), (0, 1)),
                (((("pair", 0, 0), (0, 0)), (("pair", 1, 0), (1, 1))), (4, 81))):
            self.assertEqual(held_weight(case, held), wanted)

    def test_nothing_held(self):
        for case in random_cases(40, 1000, 31) + wide_cases(10, 1000, 31):
            self.assertEqual(held_weight(case, ()), full_sum(case))

    def test_by_the_words(self):
        chance = random.Random(31)
        for case in brief_cases(25, 1500):
            for many in (1, 1, 2, 2, 3, 5):
                held = some_held(case, chance, many)
                before = repr((case, held))
                self.assertEqual(held_weight(case, held), plain_held(case, held))
                self.assertEqual(repr((case, held)), before)

    def test_all_things_held(self):
        for case in brief_cases(20, 500, 6):
            things = plain_things(case)
            for state in plain_states(case):
                held = tuple(zip(things, state))
                self.assertEqual(held_weight(case, held), told(plain_weight(case, state)))

    def test_all_things_of_larger_cases_held(self):
        for case in wide_cases(8, 1000, 32):
            things = plain_things(case)
            for state, weight in states_of(case)[::500]:
                self.assertEqual(held_weight(case, tuple(zip(things, state))), weight)

    def test_a_case_that_can_not_be(self):
        case = case_of(TRIO, (HALVES,), seen=((0, 0, LOW), (1, 0, LOW), (2, 0, HET)))
        for thing in plain_things(case):
            for value in plain_values(case, thing):
                self.assertEqual(held_weight(case, ((thing, value),)), (0, 1))
        self.assertEqual(held_weight(case, ()), (0, 1))

    def test_the_sum_over_the_values_is_the_weight(self):
        for case in random_cases(15, 500, 33):
            weight = full_sum(case)
            for thing in plain_things(case):
                parts = [held_weight(case, ((thing, value),)) for value in plain_values(case, thing)]
                self.assertEqual(total(parts), weight)

    def test_by_name(self):
        case = case_of((None,), (THREE,))
        self.assertEqual(held_weight(held=((("pair", 0, 0), (0, 2)),), case=case), (1, 12))


class SummedOverTest(Checks):
    def test_by_hand(self):
        case = case_of((None,), (THIRDS,), seen=((0, 0, HET),))
        pair = ("pair", 0, 0)
        self.assertEqual(summed_over(case, (pair,)), [
            (((pair, (0, 0)),), (0, 1)), (((pair, (0, 1)),), (2, 9)), (((pair, (1, 0)),), (2, 9)),
            (((pair, (1, 1)),), (0, 1))])

    def test_two_by_hand(self):
        case = case_of(TRIO, (THIRDS,), seen=((0, 0, LOW), (2, 0, HET)))
        pair, turn = ("pair", 1, 0), ("turn", 2, 1, 0)
        wanted = [
            ((0, 0), 0, (0, 1)), ((0, 0), 1, (0, 1)), ((0, 1), 0, (0, 1)), ((0, 1), 1, (1, 81)),
            ((1, 0), 0, (1, 81)), ((1, 0), 1, (0, 1)), ((1, 1), 0, (2, 81)), ((1, 1), 1, (2, 81))]
        self.assertEqual(summed_over(case, (pair, turn)), [
            (((pair, value), (turn, value2)), share) for value, value2, share in wanted])

    def test_one_and_two_by_the_words(self):
        chance = random.Random(34)
        for case in brief_cases(25, 300, 8):
            things = plain_things(case)
            picks = [(thing,) for thing in things]
            pairs = list(itertools.combinations(things, 2))
            picks += chance.sample(pairs, min(4, len(pairs)))
            for pick in picks:
                before = repr((case, pick))
                rows = itertools.product(*[plain_values(case, thing) for thing in pick])
                wanted = [tuple(zip(pick, values)) for values in rows]
                self.assertEqual(summed_over(case, pick), [(held, plain_held(case, held)) for held in wanted])
                self.assertEqual(repr((case, pick)), before)

    def test_as_held_weight_tells_and_together_the_weight(self):
        chance = random.Random(35)
        for case in random_cases(12, 1000, 36) + wide_cases(6, 1000, 36):
            things = plain_things(case)
            pairs = list(itertools.combinations(things, 2))
            for pick in [(chance.choice(things),)] + chance.sample(pairs, min(2, len(pairs))):
                rows = summed_over(case, pick)
                self.assertEqual([held for held, share in rows], sorted([held for held, share in rows]))
                self.assertEqual(total([share for held, share in rows]), full_sum(case))
                for held, share in rows[::3]:
                    self.assertIs(is_share(share), True)
                    self.assertEqual(held_weight(case, held), share)

    def test_a_case_that_can_not_be(self):
        case = case_of(TRIO, (HALVES,), seen=((0, 0, LOW), (1, 0, LOW), (2, 0, HET)))
        rows = summed_over(case, (("pair", 0, 0), ("turn", 2, 0, 0)))
        self.assertEqual(len(rows), 8)
        self.assertEqual({share for held, share in rows}, {(0, 1)})

    def test_the_list_is_the_askers_own(self):
        case = case_of((None,), (HALVES,))
        rows = summed_over(case, (("pair", 0, 0),))
        kept = list(rows)
        rows.clear()
        self.assertEqual(summed_over(case, (("pair", 0, 0),)), kept)

    def test_by_name(self):
        case = case_of((None,), (THREE,))
        self.assertEqual(len(summed_over(things=(("pair", 0, 0),), case=case)), 9)


if __name__ == "__main__":
    unittest.main()
