"""Point 16: which founder's string each string came down from."""

import itertools
import random
import unittest
from fractions import Fraction

from crossmarks.cases import case_of
from crossmarks.descent import comes_from, same_share
from crossmarks.errors import CrossError, NoWeight
from crossmarks.states import full_sum, states_of
from tests.samples import (
    HALVES, THIRDS, WIDE_FAMILIES, plain_things, plain_values, random_cases, told, wide_cases)
from tests.support import Checks
from tests.unfit import unfit_cases

LOW, HET = ((0, 0),), ((0, 1),)
TRIO = (None, None, (0, 1))
KIN = (None, None, (0, 1), (2, 0), (3, 2))


def plain_source(case, state, member, side, mark):
    worth = dict(zip(plain_things(case), state))
    if case[0][member] is None:
        return (member, side)
    return plain_source(case, state, case[0][member][side], worth["turn", member, side, mark], mark)


def plain_same(case, member, other, mark):
    """The share by the words of point 16."""
    whole, same = Fraction(0), Fraction(0)
    for state, weight in states_of(case):
        own = {plain_source(case, state, member, side, mark) for side in (0, 1)}
        others = {plain_source(case, state, other, side, mark) for side in (0, 1)}
        whole += Fraction(*weight)
        if own & others:
            same += Fraction(*weight)
    return told(same / whole)


def fit_cases():
    cases = random_cases(25, 600, 81) + wide_cases(6, 1000, 81)
    return [case for case in cases if full_sum(case) != (0, 1)]


class ComesFromTest(Checks):
    def test_founders(self):
        case = case_of(TRIO, (HALVES, HALVES), gaps=((1, 10),))
        for state, weight in states_of(case)[::97]:
            for member, side, mark in itertools.product((0, 1), repeat=3):
                self.assertEqual(comes_from(case, state, member, side, mark), (member, side))

    def test_a_child_by_hand(self):
        for family in (TRIO, (None, None, (1, 0))):
            case = case_of(family, (HALVES, HALVES), gaps=((1, 10),))
            for turns in itertools.product((0, 1), repeat=4):
                state = ((0, 0),) * 6 + turns
                self.assertEqual(comes_from(case, state, 2, 0, 0), (family[2][0], turns[0]))
                self.assertEqual(comes_from(case, state, 2, 0, 1), (family[2][0], turns[1]))
                self.assertEqual(comes_from(case, state, 2, 1, 0), (family[2][1], turns[2]))
                self.assertEqual(comes_from(case, state, 2, 1, 1), (family[2][1], turns[3]))

    def test_a_childs_child_by_hand(self):
        case = case_of(KIN, (HALVES,))
        for turns in itertools.product((0, 1), repeat=6):
            state = ((0, 0),) * 5 + turns
            two, three, four = turns[:2], turns[2:4], turns[4:]
            of_two = [(0, two[0]), (1, two[1])]
            of_three = [of_two[three[0]], (0, three[1])]
            self.assertEqual([comes_from(case, state, 2, side, 0) for side in (0, 1)], of_two)
            self.assertEqual([comes_from(case, state, 3, side, 0) for side in (0, 1)], of_three)
            self.assertEqual(comes_from(case, state, 4, 0, 0), of_three[four[0]])
            self.assertEqual(comes_from(case, state, 4, 1, 0), of_two[four[1]])

    def test_by_the_words(self):
        chance = random.Random(82)
        for case in fit_cases() + [case_of(family, (HALVES, THIRDS), gaps=((0, 1),)) for family in WIDE_FAMILIES]:
            before = repr(case)
            for _ in range(5):
                state = tuple([chance.choice(plain_values(case, thing)) for thing in plain_things(case)])
                kept = repr(state)
                for member, side in itertools.product(range(len(case[0])), (0, 1)):
                    for mark in range(len(case[1][0])):
                        wanted = plain_source(case, state, member, side, mark)
                        self.assertEqual(comes_from(case, state, member, side, mark), wanted)
                self.assertEqual(repr(state), kept)
            self.assertEqual(repr(case), before)

    def test_the_kind_comes_along(self):
        for case in fit_cases():
            things = plain_things(case)
            for state, weight in states_of(case)[::29]:
                worth = dict(zip(things, state))
                for member, side in itertools.product(range(len(case[0])), (0, 1)):
                    for mark in range(len(case[1][0])):
                        founder, own = comes_from(case, state, member, side, mark)
                        self.assertIsNone(case[0][founder])
                        self.assertEqual(worth["pair", member, mark][side], worth["pair", founder, mark][own])

    def test_by_name(self):
        case = case_of(TRIO, (HALVES,))
        self.assertEqual(comes_from(mark=0, side=1, member=2, state=((0, 0),) * 3 + (0, 1), case=case), (1, 1))


class SameShareTest(Checks):
    def test_by_hand(self):
        case = case_of((None, None, (0, 1), (0, 1)), (HALVES,))
        for member, other, wanted in (
                (0, 1, (0, 1)), (0, 0, (1, 1)), (2, 2, (1, 1)), (0, 2, (1, 1)), (2, 1, (1, 1)), (2, 3, (3, 4))):
            self.assertEqual(same_share(case, member, other, 0), wanted)
            self.assertEqual(same_share(case, other, member, 0), wanted)
        case = case_of((None, None, (0, 1), None, (2, 3)), (HALVES,))
        self.assertEqual(same_share(case, 4, 0, 0), (1, 2))
        self.assertEqual(same_share(case, 4, 3, 0), (1, 1))
        self.assertEqual(same_share(case, 2, 3, 0), (0, 1))

    def test_what_is_seen_counts(self):
        seen = [(0, 0, HET), (1, 0, LOW), (2, 0, LOW), (3, 0, HET)]
        case = case_of((None, None, (0, 1), (0, 1)), (HALVES,), seen=seen)
        self.assertEqual(same_share(case, 2, 3, 0), (1, 2))
        case = case_of((None, None, (0, 1), (0, 1)), (HALVES,), seen=seen[:3] + [(3, 0, LOW)])
        self.assertEqual(same_share(case, 2, 3, 0), (1, 1))

    def test_founders_have_none(self):
        for case in fit_cases():
            founders = [member for member, elders in enumerate(case[0]) if elders is None]
            for member, other in itertools.permutations(founders, 2):
                for mark in range(len(case[1][0])):
                    self.assertEqual(same_share(case, member, other, mark), (0, 1))

    def test_by_the_words(self):
        chance = random.Random(83)
        for case in fit_cases() + [case_of(KIN, (THIRDS,), seen=((0, 0, HET), (4, 0, LOW)))]:
            before = repr(case)
            members = list(itertools.combinations_with_replacement(range(len(case[0])), 2))
            for member, other in chance.sample(members, min(5, len(members))):
                for mark in range(len(case[1][0])):
                    wanted = plain_same(case, member, other, mark)
                    self.assertEqual(same_share(case, member, other, mark), wanted)
                    self.assertEqual(same_share(case, other, member, mark), wanted)
            self.assertEqual(repr(case), before)

    def test_one_and_itself(self):
        for case in fit_cases():
            for member in range(len(case[0])):
                self.assertEqual(same_share(case, member, member, len(case[1][0]) - 1), (1, 1))

    def test_no_weight(self):
        for case in unfit_cases():
            for member, other in itertools.product(range(len(case[0])), repeat=2):
                self.assertIsInstance(self.assert_refused(NoWeight, same_share, case, member, other, 0), CrossError)

    def test_by_name(self):
        case = case_of(TRIO, (HALVES,))
        self.assertEqual(same_share(mark=0, other=2, member=0, case=case), (1, 1))


if __name__ == "__main__":
    unittest.main()
