"""Point 15: what members carry, and what point 3 says of it."""

import itertools
import random
import unittest
from fractions import Fraction

from crossmarks.carrying import carries, expected, thing_shares
from crossmarks.cases import case_of
from crossmarks.errors import CrossError, NoThing, NoWeight
from crossmarks.holding import held_weight
from crossmarks.shares import over, total
from crossmarks.states import full_sum, states_of
from tests.samples import (
    HALVES, THIRDS, THREE, brief_cases, plain_states, plain_things, plain_values, plain_weight, random_cases, told,
    wide_cases)
from tests.support import Checks, nested, of_other_kinds, whatever
from tests.unfit import unfit_cases

LOW, HET, HIGH = ((0, 0),), ((0, 1),), ((1, 1),)
TRIO = (None, None, (0, 1))
CASE = case_of(TRIO, (THIRDS, THREE), gaps=((1, 10),), seen=((0, 0, LOW + HET), (1, 1, ((0, 2),)), (2, 0, HET)))
CAN_NOT = case_of(TRIO, (THIRDS,), seen=((0, 0, LOW), (2, 0, HIGH)))


def places_of(case):
    return list(itertools.product(range(len(case[0])), range(len(case[1][0]))))


def weighed(case):
    """All states with weights of Python's own."""
    return [(state, Fraction(*weight)) for state, weight in states_of(case)]


def plain_shares(rows, named):
    """The shares of what a state is called by, rising."""
    sums = {}
    for state, weight in rows:
        sums[named(state)] = sums.get(named(state), 0) + weight
    whole = sum(sums.values())
    return [(name, told(sums[name] / whole)) for name in sorted(sums) if sums[name]]


def fit_cases():
    cases = random_cases(25, 800, 61) + wide_cases(8, 1000, 61)
    return [case for case in cases if full_sum(case) != (0, 1)]


def no_places():
    """Things that are no member and mark of a case of three members and two marks."""
    found = [(3, 0), (0, 2), (-1, 0), (0, -1), (3, 2), (10 ** 99, 0), (0, 10 ** 99), (True, 0), (False, 0), (0, True)]
    found += [(0, False), ("0", 0), (0, "0"), ([0], 0), (0, [0]), (None, 0), (0, None), (None, None), ((0,), 0)]
    for thing in whatever():
        found += [(thing, thing)]
        if not isinstance(thing, int):
            found += [(thing, 0), (0, thing)]
    return [pair for pair in found if repr(pair) not in ("(0, 0)", "(1, 1)")]


class ThingSharesTest(Checks):
    def test_by_hand(self):
        case = case_of(TRIO, (THIRDS,), seen=((0, 0, HET), (1, 0, LOW), (2, 0, LOW)))
        self.assertEqual(thing_shares(case, ("pair", 0, 0)), [((0, 1), (1, 2)), ((1, 0), (1, 2))])
        self.assertEqual(thing_shares(case, ("pair", 2, 0)), [((0, 0), (1, 1))])
        self.assertEqual(thing_shares(case, ("turn", 2, 0, 0)), [(0, (1, 2)), (1, (1, 2))])
        self.assertEqual(thing_shares(case_of((None,), (THIRDS,)), ("pair", 0, 0)), [
            ((0, 0), (1, 9)), ((0, 1), (2, 9)), ((1, 0), (2, 9)), ((1, 1), (4, 9))])

    def test_turns_by_hand(self):
        seen = [(0, 0, HET), (0, 1, HET), (1, 0, LOW), (1, 1, LOW), (2, 0, LOW), (2, 1, HET)]
        case = case_of(TRIO, (HALVES, HALVES), gaps=((0, 1),), seen=seen)
        self.assertEqual(thing_shares(case, ("turn", 2, 0, 1)), [(0, (1, 2)), (1, (1, 2))])
        case = case_of(TRIO, (HALVES,), seen=((0, 0, HET), (1, 0, LOW), (2, 0, HET)))
        self.assertEqual(thing_shares(case, ("pair", 2, 0)), [((1, 0), (1, 1))])

    def test_by_the_words(self):
        for case in brief_cases(25, 1000, 62):
            rows = [(state, plain_weight(case, state)) for state in plain_states(case)]
            if not any([weight for state, weight in rows]):
                continue
            for place, thing in enumerate(plain_things(case)):
                self.assertEqual(thing_shares(case, thing), plain_shares(rows, lambda state: state[place]))

    def test_each_the_held_weight_over_the_weight(self):
        chance = random.Random(63)
        for case in fit_cases():
            before = repr(case)
            weight = full_sum(case)
            for thing in chance.sample(plain_things(case), min(4, len(plain_things(case)))):
                held = [(value, held_weight(case, ((thing, value),))) for value in plain_values(case, thing)]
                rows = thing_shares(case, thing)
                self.assertEqual(rows, [(value, over(part, weight)) for value, part in held if part != (0, 1)])
                self.assertEqual(total([share for value, share in rows]), (1, 1))
            self.assertEqual(repr(case), before)

    def test_no_thing(self):
        wrong = [thing for thing in whatever() if thing != ("pair", 0, 0)]
        wrong += [("pair", 3, 0), ("pair", 0, 2), ("turn", 0, 0, 0), ("turn", 2, 2, 0), ("pair", True, 0), "pair",
                  ["pair", 0, 0], ("turn", 2, 0, False), (nested(list, 29), 0, 0)] + of_other_kinds(("turn", 2, 1, 1))
        for thing in wrong:
            for case in (CASE, CAN_NOT):
                error = self.assert_refused(NoThing, thing_shares, case, thing)
                self.assertIsInstance(error, KeyError)
                self.assertEqual(repr(error.thing), repr(thing))

    def test_no_weight(self):
        for case in [CAN_NOT] + unfit_cases():
            for thing in plain_things(case):
                self.assertIsInstance(self.assert_refused(NoWeight, thing_shares, case, thing), CrossError)

    def test_the_list_is_the_askers_own(self):
        rows = thing_shares(CASE, ("turn", 2, 0, 0))
        kept = list(rows)
        rows.clear()
        self.assertEqual(thing_shares(CASE, ("turn", 2, 0, 0)), kept)

    def test_by_name(self):
        self.assertEqual(thing_shares(thing=("pair", 2, 0), case=CASE), thing_shares(CASE, ("pair", 2, 0)))


class CarriesTest(Checks):
    def test_by_hand(self):
        self.assertEqual(carries(case_of((None,), (THIRDS,)), 0, 0), [
            ((0, 0), (1, 9)), ((0, 1), (4, 9)), ((1, 1), (4, 9))])
        case = case_of(TRIO, (THIRDS,), seen=((0, 0, LOW), (2, 0, HET)))
        self.assertEqual(carries(case, 1, 0), [((0, 1), (1, 3)), ((1, 1), (2, 3))])
        self.assertEqual(carries(case, 2, 0), [((0, 1), (1, 1))])
        case = case_of((None, None, (1, 0)), (HALVES,), seen=((0, 0, HET), (1, 0, HET)))
        self.assertEqual(carries(case, 2, 0), [((0, 0), (1, 4)), ((0, 1), (1, 2)), ((1, 1), (1, 4))])

    def test_by_the_words(self):
        for case in fit_cases() + [CASE]:
            before = repr(case)
            rows = weighed(case)
            for member, mark in places_of(case):
                place = plain_things(case).index(("pair", member, mark))
                told_rows = carries(case, member, mark)
                self.assertEqual(told_rows, plain_shares(rows, lambda state: tuple(sorted(state[place]))))
                self.assertEqual(total([share for pair, share in told_rows]), (1, 1))
            self.assertEqual(repr(case), before)

    def test_no_thing(self):
        for member, mark in no_places():
            for case in (CASE, case_of(TRIO, (HALVES, HALVES), gaps=((0, 1),), seen=((0, 0, LOW), (2, 0, HIGH)))):
                error = self.assert_refused(NoThing, carries, case, member, mark)
                self.assertEqual(repr(error.thing), repr((member, mark)))

    def test_no_weight(self):
        for case in [CAN_NOT] + unfit_cases():
            for member, mark in places_of(case):
                self.assert_refused(NoWeight, carries, case, member, mark)

    def test_what_was_asked_is_kept_as_it_was(self):
        asked = [[0]]
        error = self.assert_refused(NoThing, carries, CASE, asked, asked)
        asked[0].append(1)
        self.assertEqual(error.thing, ([[0]], [[0]]))

    def test_the_list_is_the_askers_own(self):
        kept = list(carries(CASE, 2, 1))
        carries(CASE, 2, 1).clear()
        self.assertEqual(carries(CASE, 2, 1), kept)

    def test_by_name(self):
        self.assertEqual(carries(mark=1, member=2, case=CASE), carries(CASE, 2, 1))


class ExpectedTest(Checks):
    def test_by_hand(self):
        case = case_of((None,), (THIRDS,))
        self.assertEqual([expected(case, 0, 0, kind) for kind in (0, 1)], [(2, 3), (4, 3)])
        case = case_of((None,), (THREE,), seen=((0, 0, ((0, 0), (1, 2))),))
        self.assertEqual([expected(case, 0, 0, kind) for kind in (0, 1, 2)], [(18, 13), (4, 13), (4, 13)])
        case = case_of(TRIO, (THIRDS,), seen=((0, 0, LOW), (2, 0, HET)))
        self.assertEqual([expected(case, 1, 0, kind) for kind in (0, 1)], [(1, 3), (5, 3)])
        self.assertEqual([expected(case, 0, 0, kind) for kind in (0, 1)], [(2, 1), (0, 1)])

    def test_by_the_words(self):
        for case in fit_cases() + [CASE]:
            rows = weighed(case)
            whole = sum([weight for state, weight in rows])
            for member, mark in places_of(case):
                place = plain_things(case).index(("pair", member, mark))
                counts = []
                for kind in range(len(case[1][0][mark])):
                    counts.append(expected(case, member, mark, kind))
                    wanted = sum([weight * state[place].count(kind) for state, weight in rows]) / whole
                    self.assertEqual(counts[-1], told(wanted))
                self.assertEqual(total(counts), (2, 1))

    def test_no_thing(self):
        for member, mark in no_places():
            for case in (CASE, case_of(TRIO, (HALVES, HALVES), gaps=((0, 1),), seen=((0, 0, LOW), (2, 0, HIGH)))):
                error = self.assert_refused(NoThing, expected, case, member, mark, 0)
                self.assertEqual(repr(error.thing), repr((member, mark)))

    def test_no_weight(self):
        for case in [CAN_NOT] + unfit_cases():
            for member, mark in places_of(case):
                self.assert_refused(NoWeight, expected, case, member, mark, 1)

    def test_by_name(self):
        self.assertEqual(expected(kind=1, mark=1, member=2, case=CASE), expected(CASE, 2, 1, 1))


if __name__ == "__main__":
    unittest.main()
