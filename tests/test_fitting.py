"""Point 17: which shares of a gap fit best."""

import random
import unittest
from fractions import Fraction

from crossmarks.cases import case_of
from crossmarks.fitting import fitted, weights_by
from crossmarks.states import full_sum
from tests.samples import HALVES, brief_cases, plain_states, plain_weight, random_cases, told, wide_cases
from tests.support import Checks
from tests.unfit import unfit_cases

LOW, HET = ((0, 0),), ((0, 1),)
EIGHT = ((0, 1), (1, 100), (1, 10), (1, 5), (3, 10), (2, 5), (4567, 9999), (1, 2))
TWO_CHILDREN = (None, None, (0, 1), (0, 1))
PHASE = [(0, 0, HET), (0, 1, HET), (1, 0, LOW), (1, 1, LOW), (2, 0, LOW), (2, 1, LOW), (3, 0, LOW)]
ALIKE = case_of(TWO_CHILDREN, (HALVES, HALVES), gaps=((1, 7),), seen=PHASE + [(3, 1, LOW)])
UNLIKE = case_of(TWO_CHILDREN, (HALVES, HALVES), gaps=((1, 7),), seen=PHASE + [(3, 1, HET)])
FLAT = case_of((None, None, (0, 1)), (HALVES, HALVES), gaps=((1, 7),), seen=((0, 0, HET), (2, 1, LOW)))


def with_share(case, gap, share):
    family, (marks, gaps), seen = case
    gaps = list(gaps)
    gaps[gap] = share
    return (family, (marks, tuple(gaps)), seen)


def gapped_cases(cases):
    return [case for case in cases if case[1][1]]


def some_shares(chance, many):
    found = set()
    while len(found) < many:
        bottom = chance.randrange(1, 10000)
        found.add(Fraction(chance.randrange(0, bottom // 2 + 1), bottom))
    return tuple([told(share) for share in sorted(found)])


def plain_fitted(shares, weights):
    """The best and its neighbours, by the words of point 17."""
    worths = [Fraction(*weight) for weight in weights]
    place = worths.index(max(worths))
    beside = [(shares[at], weights[at]) for at in range(len(shares)) if abs(at - place) == 1]
    return (shares[place], weights[place], beside)


class WeightsByTest(Checks):
    def test_by_hand(self):
        wanted = [(Fraction(*gap) ** 2 + (1 - Fraction(*gap)) ** 2) / 512 for gap in EIGHT]
        self.assertEqual(weights_by(ALIKE, 0, EIGHT), [told(weight) for weight in wanted])
        wanted = [2 * Fraction(*gap) * (1 - Fraction(*gap)) / 512 for gap in EIGHT]
        self.assertEqual(weights_by(UNLIKE, 0, EIGHT), [told(weight) for weight in wanted])

    def test_each_gap(self):
        chance = random.Random(91)
        for case in gapped_cases(random_cases(40, 500, 91) + wide_cases(6, 1000, 91)):
            before = repr(case)
            for gap in range(len(case[1][1])):
                shares = some_shares(chance, chance.randrange(1, 6))
                kept = repr(shares)
                wanted = [full_sum(with_share(case, gap, share)) for share in shares]
                self.assertEqual(weights_by(case, gap, shares), wanted)
                self.assertEqual(repr((case, shares)), "(" + before + ", " + kept + ")")

    def test_by_the_words(self):
        for case in gapped_cases(brief_cases(60, 3000, 92)):
            for gap in range(len(case[1][1])):
                cases = [with_share(case, gap, share) for share in EIGHT[::3]]
                wanted = [sum([plain_weight(other, state) for state in plain_states(other)]) for other in cases]
                self.assertEqual(weights_by(case, gap, EIGHT[::3]), [told(weight) for weight in wanted])

    def test_one_share_to_eight(self):
        for many in range(1, 9):
            self.assertEqual(weights_by(ALIKE, 0, EIGHT[:many]), weights_by(ALIKE, 0, EIGHT)[:many])

    def test_its_own_share(self):
        for case in gapped_cases(random_cases(40, 500, 93)):
            for gap, share in enumerate(case[1][1]):
                self.assertEqual(weights_by(case, gap, (share,)), [full_sum(case)])

    def test_the_other_gaps_stay(self):
        seen = [(0, 0, HET), (0, 2, HET), (1, 0, LOW), (1, 2, LOW), (2, 0, LOW), (2, 2, LOW), (3, 0, LOW), (3, 2, LOW)]
        for one, other in (((1, 10), (1, 3)), ((0, 1), (1, 5)), ((1, 2), (1, 4))):
            far = Fraction(*one) + Fraction(*other) - 2 * Fraction(*one) * Fraction(*other)
            wanted = told((far ** 2 + (1 - far) ** 2) / 512)
            case = case_of(TWO_CHILDREN, (HALVES,) * 3, gaps=((1, 9), other), seen=seen)
            self.assertEqual(weights_by(case, 0, (one,)), [wanted])
            case = case_of(TWO_CHILDREN, (HALVES,) * 3, gaps=(one, (1, 9)), seen=seen)
            self.assertEqual(weights_by(case, 1, (other,)), [wanted])

    def test_the_list_is_the_askers_own(self):
        kept = list(weights_by(ALIKE, 0, EIGHT))
        weights_by(ALIKE, 0, EIGHT).clear()
        self.assertEqual(weights_by(ALIKE, 0, EIGHT), kept)

    def test_by_name(self):
        self.assertEqual(weights_by(shares=EIGHT, gap=0, case=ALIKE), weights_by(ALIKE, 0, EIGHT))


class FittedTest(Checks):
    def test_by_hand(self):
        weights = weights_by(ALIKE, 0, EIGHT)
        self.assertEqual(fitted(ALIKE, 0, EIGHT), ((0, 1), (1, 512), [((1, 100), weights[1])]))
        weights = weights_by(UNLIKE, 0, EIGHT)
        self.assertEqual(fitted(UNLIKE, 0, EIGHT), ((1, 2), (1, 1024), [((4567, 9999), weights[6])]))

    def test_by_the_words(self):
        chance = random.Random(94)
        sizes = set()
        for case in gapped_cases(random_cases(60, 600, 94) + wide_cases(10, 500, 94)):
            gap = chance.randrange(len(case[1][1]))
            shares = some_shares(chance, chance.randrange(1, 9))
            before = repr((case, shares))
            best = fitted(case, gap, shares)
            self.assertEqual(best, plain_fitted(shares, weights_by(case, gap, shares)))
            self.assertEqual(repr((case, shares)), before)
            sizes.add(len(best[2]))
        self.assertTrue({0, 1} <= sizes)

    def test_two_neighbours(self):
        # Two children tell of a crossing and one of none: a share between fits best.
        family = (None, None, (0, 1), (0, 1), (0, 1))
        seen = [(0, 0, HET), (0, 1, HET), (2, 0, LOW), (2, 1, LOW), (3, 0, LOW), (3, 1, LOW), (4, 0, LOW), (4, 1, HET)]
        marks = (((1, 9999), (9998, 9999)),) * 2
        found = set()
        for shares in (((0, 1), (1, 3), (1, 2)), ((0, 1), (1, 10), (1, 4), (1, 2)), EIGHT):
            case = case_of(family, marks, gaps=((1, 7),), seen=seen)
            best = fitted(case, 0, shares)
            self.assertEqual(best, plain_fitted(shares, weights_by(case, 0, shares)))
            found.add(len(best[2]))
        self.assertIn(2, found)

    def test_the_first_of_alike_ones(self):
        for many in range(1, 9):
            shares = EIGHT[:many]
            weight = full_sum(FLAT)
            beside = [(share, weight) for share in shares[1:2]]
            self.assertEqual(fitted(FLAT, 0, shares), (shares[0], weight, beside))
        for case in unfit_cases():
            if case[1][1]:
                self.assertEqual(fitted(case, 0, EIGHT), ((0, 1), (0, 1), [((1, 100), (0, 1))]))

    def test_one_share(self):
        for share in EIGHT:
            self.assertEqual(fitted(ALIKE, 0, (share,)), (share, weights_by(ALIKE, 0, (share,))[0], []))

    def test_the_list_is_the_askers_own(self):
        kept = list(fitted(ALIKE, 0, EIGHT)[2])
        fitted(ALIKE, 0, EIGHT)[2].clear()
        self.assertEqual(fitted(ALIKE, 0, EIGHT)[2], kept)

    def test_by_name(self):
        self.assertEqual(fitted(shares=EIGHT, gap=0, case=ALIKE), fitted(ALIKE, 0, EIGHT))


if __name__ == "__main__":
    unittest.main()
