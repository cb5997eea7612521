"""Point 16: the likeliest state and those near to it, and what point 3 says of them."""

import unittest
from fractions import Fraction

from crossmarks.cases import case_of
from crossmarks.errors import CrossError, NoWeight
from crossmarks.likely import likeliest, within
from crossmarks.states import full_sum, states_of
from tests.samples import HALVES, THIRDS, THREE, brief_cases, plain_states, plain_weight, random_cases, told, wide_cases
from tests.support import Checks
from tests.unfit import unfit_cases

LOW, HET, HIGH = ((0, 0),), ((0, 1),), ((1, 1),)
TRIO = (None, None, (0, 1))
SHARES = ((1, 1), (9999, 10000), (1, 2), (1, 3), (2, 3), (1, 10), (1, 81), (1, 9999), (4, 9))


def fit_cases():
    cases = random_cases(40, 800, 71) + wide_cases(10, 1000, 71)
    return [case for case in cases if full_sum(case) != (0, 1)]


def plain_within(rows, share):
    """All states near to the likeliest, by the words of point 16."""
    most = max([weight for state, weight in rows])
    found = [(-weight, state) for state, weight in rows if weight and weight >= Fraction(*share) * most]
    return [(state, told(-weight)) for weight, state in sorted(found)]


class LikeliestTest(Checks):
    def test_by_hand(self):
        self.assertEqual(likeliest(case_of((None,), (THIRDS,))), (((1, 1),), (4, 9)))
        self.assertEqual(likeliest(case_of((None,), (HALVES,))), (((0, 0),), (1, 4)))
        self.assertEqual(likeliest(case_of((None,), (THIRDS,), seen=((0, 0, LOW + HET),))), (((0, 1),), (2, 9)))
        case = case_of(TRIO, (THIRDS,), seen=((0, 0, LOW), (2, 0, HET)))
        self.assertEqual(likeliest(case), (((0, 0), (1, 1), (0, 1), 0, 0), (1, 81)))

    def test_by_the_words(self):
        for case in brief_cases(40, 3000, 72):
            rows = [(state, plain_weight(case, state)) for state in plain_states(case)]
            if any([weight for state, weight in rows]):
                self.assertEqual(likeliest(case), plain_within(rows, (1, 1))[0])

    def test_as_likely_as_any_and_the_first(self):
        for case in fit_cases():
            before = repr(case)
            state, share = likeliest(case)
            for other, weight in states_of(case):
                self.assertLessEqual(Fraction(*weight), Fraction(*share))
                if weight == share:
                    self.assertLessEqual(state, other)
            self.assertIn((state, share), states_of(case))
            self.assertEqual(repr(case), before)

    def test_no_weight(self):
        for case in unfit_cases():
            self.assertIsInstance(self.assert_refused(NoWeight, likeliest, case), CrossError)

    def test_by_name(self):
        self.assertEqual(likeliest(case=case_of((None,), (HALVES,))), (((0, 0),), (1, 4)))


class WithinTest(Checks):
    def test_by_hand(self):
        case = case_of((None,), (THIRDS,))
        rows = [(((1, 1),), (4, 9)), (((0, 1),), (2, 9)), (((1, 0),), (2, 9)), (((0, 0),), (1, 9))]
        for share, many in (((1, 1), 1), ((5001, 10000), 1), ((1, 2), 3), ((2501, 10000), 3), ((1, 4), 4), ((1, 99), 4)):
            self.assertEqual(within(case, share=share), rows[:many])

    def test_the_share_left_out(self):
        for case in fit_cases():
            rows = within(case)
            weight = likeliest(case)[1]
            self.assertEqual(rows, [row for row in states_of(case) if row[1] == weight])
            self.assertEqual(rows, within(case, share=(1, 1)))
            self.assertEqual(rows[0], likeliest(case))

    def test_by_the_words(self):
        for case in brief_cases(15, 3000, 73):
            rows = [(state, plain_weight(case, state)) for state in plain_states(case)]
            if any([weight for state, weight in rows]):
                for share in SHARES:
                    self.assertEqual(within(case, share=share), plain_within(rows, share))

    def test_larger_cases(self):
        for case in fit_cases():
            before = repr(case)
            rows = [(state, Fraction(*weight)) for state, weight in states_of(case)]
            for share in SHARES[2::3]:
                self.assertEqual(within(case, share=share), plain_within(rows, share))
            self.assertEqual(repr(case), before)

    def test_a_share_just_met(self):
        case = case_of((None,), (THREE,))
        weights = sorted({Fraction(*weight) for state, weight in states_of(case)})
        for weight in weights:
            share = weight / max(weights)
            rows = within(case, share=told(share))
            self.assertEqual(rows[-1][1], told(weight))
            if share < 1:
                more = within(case, share=told(share + Fraction(1, 9999)))
                self.assertEqual(more, [row for row in rows if Fraction(*row[1]) > weight])

    def test_no_weight(self):
        for case in unfit_cases():
            self.assert_refused(NoWeight, within, case)
            self.assert_refused(NoWeight, within, case, share=(1, 2))

    def test_the_list_is_the_askers_own(self):
        case = case_of((None,), (HALVES,))
        kept = list(within(case))
        within(case).clear()
        self.assertEqual(within(case), kept)

    def test_the_share_by_its_name_alone(self):
        case = case_of((None,), (HALVES,))
        with self.assertRaises(TypeError):
            within(case, (1, 2))
        self.assertEqual(len(within(share=(1, 2), case=case)), 4)


if __name__ == "__main__":
    unittest.main()
