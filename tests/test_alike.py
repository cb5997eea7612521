"""Point 21: where two cases part, and what point 3 says of it."""

import itertools
import random
import unittest
from fractions import Fraction

from crossmarks.alike import first_unlike
from crossmarks.carrying import carries
from crossmarks.cases import case_of
from crossmarks.errors import CrossError, NoWeight
from crossmarks.states import full_sum
from tests.samples import (
    HALVES, THIRDS, THREE, bare, brief_cases, plain_states, plain_things, plain_weight, random_cases, sorted_pairs, told,
    ways, wide_cases)
from tests.support import Checks
from tests.unfit import unfit_cases

LOW, HET, HIGH = ((0, 0),), ((0, 1),), ((1, 1),)
TRIO = (None, None, (0, 1))


def plain_shares(case):
    """The shares of all sorted pairs of each member and mark, by the words of point 15; None where it can't be."""
    places = list(itertools.product(range(len(case[0])), range(len(case[1][0]))))
    at = {place: plain_things(case).index(("pair",) + place) for place in places}
    sums = {place: {pair: Fraction(0) for pair in sorted_pairs(len(case[1][0][place[1]]))} for place in places}
    whole = Fraction(0)
    for state in plain_states(case):
        weight = plain_weight(case, state)
        whole += weight
        for place in places:
            sums[place][tuple(sorted(state[at[place]]))] += weight
    if not whole:
        return None
    return {(place, pair): sums[place][pair] / whole for place in places for pair in sums[place]}


def plain_unlike(shares, shares2):
    """Where shares part, by the words of point 21."""
    for place, pair in sorted(shares):
        one, other = shares[place, pair], shares2[place, pair]
        if one != other:
            return place + (pair, told(one), told(other))
    return None


def seen_otherwise(case, chance):
    """A case of the same family and line, of which other things are seen."""
    places = list(itertools.product(range(len(case[0])), range(len(case[1][0]))))
    seen = []
    for member, mark in sorted(chance.sample(places, chance.randrange(0, min(8, len(places)) + 1))):
        pairs = sorted_pairs(len(case[1][0][mark]))
        seen.append((member, mark, tuple(sorted(chance.sample(pairs, chance.randrange(1, len(pairs) + 1))))))
    return (case[0], case[1], tuple(seen))


class FirstUnlikeTest(Checks):
    def test_by_hand(self):
        nothing = case_of(TRIO, (THIRDS,))
        low = case_of(TRIO, (THIRDS,), seen=((0, 0, LOW),))
        child = case_of(TRIO, (THIRDS,), seen=((2, 0, HET),))
        self.assertEqual(first_unlike(nothing, low), (0, 0, (0, 0), (1, 9), (1, 1)))
        self.assertEqual(first_unlike(low, nothing), (0, 0, (0, 0), (1, 1), (1, 9)))
        self.assertEqual(first_unlike(nothing, child), (0, 0, (0, 0), (1, 9), (1, 6)))
        self.assertIsNone(first_unlike(nothing, nothing))
        other = case_of(TRIO, (THIRDS,), seen=((0, 0, LOW), (1, 0, HIGH)))
        self.assertEqual(first_unlike(low, other), (1, 0, (0, 0), (1, 9), (0, 1)))
        self.assertEqual(first_unlike(other, low), (1, 0, (0, 0), (0, 1), (1, 9)))

    def test_a_pair_that_is_told_in_one_alone(self):
        one = case_of((None,), (HALVES,), seen=((0, 0, HET),))
        other = case_of((None,), (HALVES,), seen=((0, 0, HIGH),))
        self.assertEqual(first_unlike(one, other), (0, 0, (0, 1), (1, 1), (0, 1)))
        self.assertEqual(first_unlike(other, one), (0, 0, (0, 1), (0, 1), (1, 1)))

    def test_a_later_mark_and_member(self):
        marks = (HALVES, THREE)
        one = case_of((None, None), marks, gaps=((1, 3),))
        other = case_of((None, None), marks, gaps=((1, 3),), seen=((1, 1, ((0, 0), (0, 1), (0, 2), (1, 1), (1, 2))),))
        self.assertEqual(first_unlike(one, other), (1, 1, (0, 0), (1, 4), (9, 35)))
        other = case_of((None, None), marks, gaps=((1, 3),), seen=((0, 1, ((2, 2),)), (1, 0, LOW)))
        self.assertEqual(first_unlike(one, other), (0, 1, (0, 0), (1, 4), (0, 1)))

    def test_other_things_seen_that_tell_as_much(self):
        every = tuple(sorted_pairs(2))
        for seen in (((0, 0, every),), ((2, 0, every),), ((0, 0, every), (1, 0, every), (2, 0, every))):
            self.assertIsNone(first_unlike(case_of(TRIO, (THIRDS,)), case_of(TRIO, (THIRDS,), seen=seen)))
        one = case_of(TRIO, (THIRDS,), seen=((0, 0, LOW), (1, 0, LOW)))
        other = case_of(TRIO, (THIRDS,), seen=((0, 0, LOW), (1, 0, LOW), (2, 0, LOW)))
        self.assertIsNone(first_unlike(one, other))
        self.assertIsNone(first_unlike(other, one))
        one = case_of(TRIO, (HALVES,), seen=((2, 0, HET),))
        other = case_of(TRIO, (HALVES,), seen=((2, 0, HET),))
        self.assertIsNone(first_unlike(one, other))

    def test_by_the_words(self):
        chance = random.Random(31)
        found = []
        for case in brief_cases(60, 1500, 32):
            shares = plain_shares(case)
            others = [case, bare(case)] + [seen_otherwise(case, chance) for _ in range(2)]
            for other in others:
                shares2 = plain_shares(other)
                if shares is None or shares2 is None:
                    self.assert_refused(NoWeight, first_unlike, case, other)
                    self.assert_refused(NoWeight, first_unlike, other, case)
                    found.append("refused")
                    continue
                found.append(first_unlike(case, other))
                self.assertEqual(found[-1], plain_unlike(shares, shares2))
                self.assertEqual(first_unlike(other, case), plain_unlike(shares2, shares))
        self.assertIn(None, found)
        self.assertIn("refused", found)
        self.assertGreater(len([one for one in found if isinstance(one, tuple)]), 10)

    def test_it_is_where_carries_part(self):
        chance = random.Random(33)
        many = 0
        for case in random_cases(60, 2000, 34) + wide_cases(20, 500, 34):
            other = seen_otherwise(case, chance)
            if ways(other) > 5000 or (0, 1) in (full_sum(case), full_sum(other)):
                continue
            many += 1
            before = repr((case, other))
            parts = first_unlike(case, other)
            for member, mark in itertools.product(range(len(case[0])), range(len(case[1][0]))):
                if parts is not None and (member, mark) == parts[:2]:
                    self.assertEqual(dict(carries(case, member, mark)).get(parts[2], (0, 1)), parts[3])
                    self.assertEqual(dict(carries(other, member, mark)).get(parts[2], (0, 1)), parts[4])
                    self.assertNotEqual(parts[3], parts[4])
                    break
                self.assertEqual(carries(case, member, mark), carries(other, member, mark))
            self.assertEqual(repr((case, other)), before)
        self.assertGreater(many, 20)

    def test_members_in_another_order_tell_the_same(self):
        for case in random_cases(20, 800, 35, ((None, None, (0, 1)), (None, None, (0, 1), (0, 1)))):
            named = (1, 0) + tuple(range(2, len(case[0])))
            family = tuple([None if elders is None else (elders[1], elders[0]) for elders in case[0]])
            family = tuple([None if elders is None else (named[elders[0]], named[elders[1]]) for elders in family])
            other = (family, case[1], tuple(sorted([(named[row[0]],) + row[1:] for row in case[2]])))
            if full_sum(case) == (0, 1):
                self.assertEqual(full_sum(other), (0, 1))
                continue
            for member, mark in itertools.product(range(len(family)), range(len(case[1][0]))):
                self.assertEqual(carries(case, member, mark), carries(other, named[member], mark))

    def test_kinds_in_another_order_tell_the_same(self):
        for case in random_cases(20, 800, 36):
            family, (marks, gaps), seen = case

            def turned(pair, mark):
                return tuple(sorted([len(marks[mark]) - 1 - kind for kind in pair]))

            rows = [(member, mark, tuple(sorted([turned(pair, mark) for pair in pairs]))) for member, mark, pairs in seen]
            other = (family, (tuple([mark[::-1] for mark in marks]), gaps), tuple(rows))
            self.assertEqual(full_sum(case), full_sum(other))
            if full_sum(case) == (0, 1):
                continue
            for member, mark in itertools.product(range(len(family)), range(len(marks))):
                wanted = sorted([(turned(pair, mark), share) for pair, share in carries(case, member, mark)])
                self.assertEqual(carries(other, member, mark), wanted)

    def test_no_weight(self):
        for case in unfit_cases():
            for other in (case, bare(case)):
                self.assertIsInstance(self.assert_refused(NoWeight, first_unlike, case, other), CrossError)
                self.assertIsInstance(self.assert_refused(NoWeight, first_unlike, other, case), CrossError)

    def test_by_name(self):
        one, other = case_of((None,), (HALVES,)), case_of((None,), (HALVES,), seen=((0, 0, LOW),))
        self.assertEqual(first_unlike(other=other, case=one), (0, 0, (0, 0), (1, 4), (1, 1)))


if __name__ == "__main__":
    unittest.main()
