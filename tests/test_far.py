"""Point 18: how shares go along a line."""

import itertools
import random
import unittest
from fractions import Fraction

from crossmarks.cases import case_of, is_case
from crossmarks.errors import CrossError, NoShare, NoThing
from crossmarks.far import between, far, far_along, near, without_mark
from crossmarks.shares import is_less, plus
from crossmarks.states import full_sum
from tests.samples import HALVES, THIRDS, THREE, line, random_cases, told, wide_cases
from tests.support import Checks, nested, whatever

LOW, HET, HIGH = ((0, 0),), ((0, 1),), ((1, 1),)
TRIO = (None, None, (0, 1))
SHARES = ((0, 1), (1, 2), (1, 10), (1, 3), (1, 4), (2, 5), (123, 4567), (4999, 9999), (1, 9999))
LINE = line([HALVES, THIRDS, THREE], (1, 10), (1, 3))


def plain_far(share, other):
    one, two = Fraction(*share), Fraction(*other)
    return one + two - 2 * one * two


class FarTest(Checks):
    def test_by_hand(self):
        for share, other, wanted in (
                ((1, 10), (1, 10), (9, 50)), ((1, 2), (1, 10), (1, 2)), ((0, 1), (1, 3), (1, 3)), ((0, 1), (0, 1), (0, 1)),
                ((1, 2), (1, 2), (1, 2)), ((1, 4), (1, 3), (5, 12))):
            self.assertEqual(far(share, other), wanted)

    def test_by_the_words(self):
        for share, other in itertools.product(SHARES, repeat=2):
            result = far(share, other)
            self.assertEqual(result, told(plain_far(share, other)))
            self.assertEqual(result, far(other, share))
            self.assertIs(is_less(plus(share, other), result), False)
            self.assertEqual(result == plus(share, other), (0, 1) in (share, other))
            self.assertIs(is_less((1, 2), result), False)

    def test_by_name(self):
        self.assertEqual(far(other=(1, 3), share=(1, 4)), (5, 12))


class FarAlongTest(Checks):
    def test_none_one_and_some(self):
        for kind in (list, tuple):
            self.assertEqual(far_along(kind()), (0, 1))
            for share in SHARES:
                self.assertEqual(far_along(kind([share])), share)
            self.assertEqual(far_along(kind([(1, 10), (1, 10), (1, 10)])), (61, 250))

    def test_by_the_words(self):
        for shares in itertools.product(SHARES[::2], repeat=3):
            wanted = plain_far(shares[0], told(plain_far(shares[1], shares[2])))
            for row in (shares, shares[::-1], list(shares)):
                before = repr(row)
                self.assertEqual(far_along(row), told(wanted))
                self.assertEqual(repr(row), before)

    def test_odd_crossings(self):
        chance = random.Random(101)
        for _ in range(30):
            shares = [chance.choice(SHARES) for _ in range(chance.randrange(0, 6))]
            wanted = Fraction(0)
            for turns in itertools.product((0, 1), repeat=len(shares)):
                if sum(turns) % 2 == 1:
                    part = Fraction(1)
                    for turn, share in zip(turns, shares):
                        part *= Fraction(*share) if turn else 1 - Fraction(*share)
                    wanted += part
            self.assertEqual(far_along(shares), told(wanted))

    def test_by_name(self):
        self.assertEqual(far_along(shares=[(1, 4), (1, 3)]), (5, 12))


class BetweenTest(Checks):
    def test_each_two_marks(self):
        wanted = {(0, 0): (0, 1), (1, 1): (0, 1), (2, 2): (0, 1), (0, 1): (1, 10), (1, 2): (1, 3), (0, 2): (11, 30)}
        before = repr(LINE)
        for mark, mark2 in wanted:
            self.assertEqual(between(LINE, mark, mark2), wanted[mark, mark2])
            self.assertEqual(between(LINE, mark2, mark), wanted[mark, mark2])
        self.assertEqual(repr(LINE), before)

    def test_shorter_lines(self):
        self.assertEqual(between(line([HALVES]), 0, 0), (0, 1))
        two = line([HALVES, THREE], (123, 4567))
        self.assertEqual([between(two, *marks) for marks in itertools.product((0, 1), repeat=2)], [
            (0, 1), (123, 4567), (123, 4567), (0, 1)])

    def test_by_name(self):
        self.assertEqual(between(mark2=0, mark=2, line=LINE), (11, 30))


class NearTest(Checks):
    def test_by_hand(self):
        self.assertEqual(near((9, 50), (1, 10)), (1, 10))
        self.assertEqual(near((1, 2), (1, 10)), (1, 2))
        self.assertEqual(near((1, 10), (1, 10)), (0, 1))
        self.assertEqual(near((0, 1), (0, 1)), (0, 1))
        self.assertEqual(near((1, 3), (0, 1)), (1, 3))

    def test_it_undoes_far(self):
        for share, other in itertools.product(SHARES, repeat=2):
            if other != (1, 2):
                self.assertEqual(near(far(share, other), other), share)

    def test_by_the_words(self):
        chance = random.Random(102)
        refused = 0
        for _ in range(300):
            share = told(Fraction(chance.randrange(0, 101), 100))
            other = told(Fraction(chance.randrange(0, 50), 100))
            wanted = (Fraction(*share) - Fraction(*other)) / (1 - 2 * Fraction(*other))
            if 0 <= wanted <= Fraction(1, 2):
                self.assertEqual(near(share, other), told(wanted))
                self.assertEqual(far(near(share, other), other), share)
            else:
                refused += 1
                self.assert_refused(NoShare, near, share, other)
        self.assertGreater(refused, 50)

    def test_no_share(self):
        for share, other in (((0, 1), (1, 10)), ((1, 10), (1, 9)), ((51, 100), (1, 10)), ((1, 1), (0, 1)), ((2, 3), (1, 3)),
                             ((5000, 9999), (4999, 9999)), ((1, 3), (2, 5)), ((-1, 10), (0, 1))):
            error = self.assert_refused(NoShare, near, share, other)
            self.assertIsInstance(error, ZeroDivisionError)
            self.assertNotIsInstance(error, CrossError)

    def test_by_name(self):
        self.assertEqual(near(other=(1, 10), share=(9, 50)), (1, 10))


class WithoutMarkTest(Checks):
    def test_by_hand(self):
        seen = ((0, 0, LOW), (1, 2, ((0, 2),)), (2, 0, HET))
        case = case_of(TRIO, LINE[0], gaps=LINE[1], seen=seen)
        self.assertEqual(without_mark(case, 1), (
            TRIO, ((HALVES, THREE), ((11, 30),)), ((0, 0, LOW), (1, 1, ((0, 2),)), (2, 0, HET))))
        case = case_of(TRIO, LINE[0], gaps=LINE[1], seen=((0, 1, LOW), (1, 2, ((0, 2),)), (2, 1, HET)))
        self.assertEqual(without_mark(case, 0), (
            TRIO, ((THIRDS, THREE), ((1, 3),)), ((0, 0, LOW), (1, 1, ((0, 2),)), (2, 0, HET))))
        case = case_of(TRIO, LINE[0], gaps=LINE[1], seen=((0, 0, LOW), (0, 1, HET)))
        self.assertEqual(without_mark(case, 2), (TRIO, ((HALVES, THIRDS), ((1, 10),)), ((0, 0, LOW), (0, 1, HET))))

    def test_two_marks(self):
        case = case_of((None,), (HALVES, THREE), gaps=((1, 7),))
        self.assertEqual(without_mark(case, 0), ((None,), ((THREE,), ()), ()))
        self.assertEqual(without_mark(case, 1), ((None,), ((HALVES,), ()), ()))

    def test_the_weight_stays(self):
        many = {}
        cases = random_cases(250, 5000, 103) + wide_cases(40, 100, 103)
        for case in cases:
            marks = len(case[1][0])
            for mark in range(marks):
                if marks < 2 or mark in [row[1] for row in case[2]]:
                    continue
                before = repr(case)
                other = without_mark(case, mark)
                self.assertIs(is_case(other), True)
                self.assertEqual(len(other[2]), len(case[2]))
                self.assertEqual(full_sum(other), full_sum(case))
                self.assertEqual(repr(case), before)
                many[marks, mark] = many.get((marks, mark), 0) + 1
        self.assertEqual(sorted(many), [(2, 0), (2, 1), (3, 0), (3, 1), (3, 2)])

    def test_the_weight_stays_where_the_far_tells(self):
        family = (None, None, (0, 1), (0, 1))
        seen = [(0, 0, HET), (0, 2, HET), (1, 0, LOW), (1, 2, LOW), (2, 0, LOW), (2, 2, LOW), (3, 0, LOW), (3, 2, HET)]
        for gaps in (((1, 10), (1, 3)), ((0, 1), (1, 5)), ((1, 2), (1, 4)), ((123, 4567), (1, 9))):
            case = case_of(family, (HALVES,) * 3, gaps=gaps, seen=seen)
            share = plain_far(*gaps)
            other = without_mark(case, 1)
            self.assertEqual(other[1][1], (told(share),))
            self.assertEqual(full_sum(other), told(2 * share * (1 - share) / 512))
            self.assertEqual(full_sum(other), full_sum(case))

    def test_no_thing(self):
        two = case_of(TRIO, (HALVES, THIRDS), gaps=((1, 10),), seen=((0, 0, LOW), (2, 0, HIGH)))
        one = case_of(TRIO, (HALVES,))
        three = case_of(TRIO, LINE[0], gaps=LINE[1], seen=((2, 2, HET),))
        wrong = [2, 3, -1, 10 ** 99, True, False, None, "0", "1", [0], [1], (0,), (1,), {}, {1: 1}, nested(list, 29)]
        wrong += [thing for thing in whatever() if not isinstance(thing, int)]
        for case, marks in ((two, wrong + [0]), (one, wrong + [0, 1]), (three, wrong)):
            for mark in marks:
                error = self.assert_refused(NoThing, without_mark, case, mark)
                self.assertIsInstance(error, KeyError)
                self.assertEqual(repr(error.thing), repr(mark))
        self.assertEqual(without_mark(two, 1), (TRIO, ((HALVES,), ()), two[2]))

    def test_what_was_asked_is_kept_as_it_was(self):
        asked = [[0]]
        error = self.assert_refused(NoThing, without_mark, case_of(TRIO, (HALVES,)), asked)
        asked[0].append(1)
        self.assertEqual(error.thing, [[0]])

    def test_by_name(self):
        case = case_of((None,), (HALVES, THREE), gaps=((1, 7),))
        self.assertEqual(without_mark(mark=1, case=case), without_mark(case, 1))


if __name__ == "__main__":
    unittest.main()
