"""Point 4, and what point 2 says of shares."""

import itertools
import random
import unittest
from fractions import Fraction

from crossmarks.errors import CrossError, NoShare
from crossmarks.shares import HALF, NOUGHT, ONE, is_less, is_share, less, over, plus, product, share_of, times, total
from tests.support import Checks, nested, of_other_kinds, whatever

LONG = 10 ** 100 - 1


def told(number):
    """A number of Python's own as a share."""
    return (number.numerator, number.denominator)


def small_shares():
    """All shares with few figures, each once."""
    numbers = {Fraction(top, bottom) for top in range(-6, 7) for bottom in range(1, 6)}
    return [told(number) for number in sorted(numbers)]


def long_shares(many):
    """Shares of up to a hundred figures, of either sign."""
    chance = random.Random(4)
    rows = []
    for _ in range(many):
        figures = chance.choice((1, 2, 10, 40, 100))
        top = chance.randrange(-(10 ** figures) + 1, 10 ** figures)
        bottom = chance.randrange(1, 10 ** chance.choice((1, 3, 50, 100)))
        rows.append(told(Fraction(top, bottom)))
    return rows


def some_pairs():
    return list(itertools.product(small_shares(), repeat=2)) + list(zip(long_shares(300), reversed(long_shares(300))))


class ShareOfTest(Checks):
    def test_values(self):
        self.assertEqual((NOUGHT, ONE, HALF), ((0, 1), (1, 1), (1, 2)))

    def test_small_pairs(self):
        for top in range(-30, 31):
            for bottom in [*range(-30, 0), *range(1, 31)]:
                self.assertEqual(share_of(top, bottom), told(Fraction(top, bottom)))

    def test_many_figures(self):
        chance = random.Random(1)
        for _ in range(300):
            divisor = chance.randrange(1, 10 ** 50)
            top = divisor * chance.randrange(-(10 ** 50), 10 ** 50)
            bottom = divisor * (chance.randrange(1, 10 ** 50)) * chance.choice((1, -1))
            share = share_of(top, bottom)
            self.assertEqual(share, told(Fraction(top, bottom)))
            self.assertIs(is_share(share), True)
        self.assertEqual(share_of(LONG, LONG), ONE)
        self.assertEqual(share_of(-LONG, LONG), (-1, 1))
        self.assertEqual(share_of(LONG, -LONG), (-1, 1))
        self.assertEqual(share_of(LONG, LONG - 1), (LONG, LONG - 1))

    def test_nought_above(self):
        for bottom in (1, 2, -1, -7, LONG, -LONG):
            self.assertEqual(share_of(0, bottom), NOUGHT)

    def test_second_left_out(self):
        for top in (0, 1, -1, 12, LONG, -LONG):
            self.assertEqual(share_of(top), (top, 1))
            self.assertEqual(share_of(top=top), (top, 1))

    def test_by_name(self):
        self.assertEqual(share_of(bottom=-4, top=6), (-3, 2))
        self.assertEqual(share_of(6, bottom=4), (3, 2))

    def test_nought_below(self):
        for top in (0, 1, -1, 5, LONG):
            error = self.assert_refused(NoShare, share_of, top, 0)
            self.assertIsInstance(error, ZeroDivisionError)
            self.assertNotIsInstance(error, CrossError)
        self.assert_refused(NoShare, share_of, bottom=0, top=2)


class IsShareTest(Checks):
    def test_shares(self):
        self.assert_all_true(is_share, small_shares() + long_shares(100))
        self.assert_all_true(is_share, [NOUGHT, ONE, HALF, (-1, 1), (-1, 2), (LONG, 1), (1, LONG), (-LONG, LONG - 1)])
        self.assertIs(is_share(thing=HALF), True)

    def test_each_small_pair(self):
        for top in range(-12, 13):
            for bottom in range(-12, 13):
                wanted = bottom >= 1 and told(Fraction(top, bottom)) == (top, bottom)
                self.assertIs(is_share((top, bottom)), wanted)

    def test_wrong_pairs(self):
        self.assert_all_false(is_share, [
            (0, 2), (0, 0), (0, -1), (1, 0), (-1, 0), (1, -1), (1, -2), (-1, -2), (2, 2), (2, 4), (-3, 6), (4, 2),
            (1, 0), (2 * LONG, 2), (LONG, LONG), (LONG, -1), (3 * 10 ** 50, 3 * 10 ** 50 + 3),
        ])

    def test_parts_exchanged(self):
        self.assert_all_false(is_share, [(1, 0), (2, -1), (5, -3), (7, 0)])

    def test_truths_for_numbers(self):
        self.assert_all_false(is_share, [(True, 1), (1, True), (False, 1), (True, True), (True, 2), (0, True)])

    def test_a_part_more_or_fewer(self):
        self.assert_all_false(is_share, [(), (1,), (0,), (1, 2, 3), (1, 2, 1), (1, 2, None), ((1, 2),)])

    def test_other_kinds(self):
        self.assert_all_false(is_share, whatever())
        self.assert_all_false(is_share, [
            [1, 2], "1/2", "12", ("1", "2"), ("1", 2), (1, "2"), {1: 2}, {0: 1, 1: 2}, {"top": 1, "bottom": 2},
            (None, 1), (1, None), ([1], 2), (1, [2]), ((1,), 2), (1, (2,)), ({}, 1), (1, {}), 1, 2, LONG,
            (nested(tuple, 29), 1), (1, nested(list, 29)), (nested(dict, 29), nested(dict, 29)),
        ])
        for share in (NOUGHT, ONE, HALF, (-3, 7)):
            self.assert_all_false(is_share, of_other_kinds(share))


class SumsTest(Checks):
    def test_two_shares(self):
        for share, other in some_pairs():
            one, two = Fraction(*share), Fraction(*other)
            self.assertEqual(plus(share, other), told(one + two))
            self.assertEqual(less(share, other), told(one - two))
            self.assertEqual(times(share, other), told(one * two))
            self.assertIs(is_less(share, other), one < two)
            if two != 0:
                self.assertEqual(over(share, other), told(one / two))

    def test_what_is_told_is_a_share(self):
        for share, other in some_pairs():
            rows = [plus(share, other), less(share, other), times(share, other)]
            if other != NOUGHT:
                rows.append(over(share, other))
            self.assert_all_true(is_share, rows)

    def test_by_hand(self):
        self.assertEqual(plus((1, 2), (1, 3)), (5, 6))
        self.assertEqual(plus((1, 6), (1, 3)), HALF)
        self.assertEqual(plus((1, 2), (-1, 2)), NOUGHT)
        self.assertEqual(less((1, 3), (1, 2)), (-1, 6))
        self.assertEqual(less((3, 4), (3, 4)), NOUGHT)
        self.assertEqual(times((2, 3), (3, 4)), HALF)
        self.assertEqual(times((-2, 3), (0, 1)), NOUGHT)
        self.assertEqual(over((1, 2), (-1, 3)), (-3, 2))
        self.assertEqual(over(NOUGHT, (-5, 3)), NOUGHT)
        self.assertEqual(over((-5, 3), (-5, 3)), ONE)

    def test_by_name(self):
        self.assertEqual(plus(other=(1, 3), share=(1, 2)), (5, 6))
        self.assertEqual(less(other=(1, 3), share=(1, 2)), (1, 6))
        self.assertEqual(times(other=(1, 3), share=(1, 2)), (1, 6))
        self.assertEqual(over(other=(1, 3), share=(1, 2)), (3, 2))
        self.assertIs(is_less(other=(1, 3), share=(1, 2)), False)
        self.assertIs(is_less((1, 3), other=(1, 2)), True)

    def test_over_nought(self):
        for share in (NOUGHT, ONE, HALF, (-2, 3), (LONG, 1)):
            error = self.assert_refused(NoShare, over, share, NOUGHT)
            self.assertNotIsInstance(error, CrossError)
        self.assert_refused(NoShare, over, share=ONE, other=NOUGHT)

    def test_just_one_of_unlike_shares_is_less(self):
        for share, other in some_pairs():
            both = (is_less(share, other), is_less(other, share))
            self.assertEqual(sorted(both), [False, share != other])

    def test_laws(self):
        rows = long_shares(40) + small_shares()[::9] + [NOUGHT, ONE]
        for share, other in itertools.product(rows, repeat=2):
            self.assertEqual(plus(share, other), plus(other, share))
            self.assertEqual(times(share, other), times(other, share))
            self.assertEqual(plus(less(share, other), other), share)
            if other != NOUGHT:
                self.assertEqual(over(times(share, other), other), share)
                self.assertEqual(times(over(share, other), other), share)
        for share, other, third in itertools.product(rows[::4], repeat=3):
            self.assertEqual(plus(plus(share, other), third), plus(share, plus(other, third)))
            self.assertEqual(times(times(share, other), third), times(share, times(other, third)))
            self.assertEqual(times(share, plus(other, third)), plus(times(share, other), times(share, third)))


class SomeTest(Checks):
    def test_none(self):
        for row in ([], ()):
            self.assertEqual(total(row), NOUGHT)
            self.assertEqual(product(row), ONE)

    def test_one(self):
        for share in small_shares():
            for row in ([share], (share,)):
                self.assertEqual(total(row), share)
                self.assertEqual(product(row), share)

    def test_some(self):
        chance = random.Random(2)
        known = small_shares() + long_shares(20)
        for _ in range(300):
            row = [chance.choice(known) for _ in range(chance.randrange(2, 9))]
            numbers = [Fraction(*share) for share in row]
            whole = Fraction(1)
            for number in numbers:
                whole *= number
            before = list(row)
            for given in (row, tuple(row), row[::-1], sorted(row)):
                self.assertEqual(total(given), told(sum(numbers)))
                self.assertEqual(product(given), told(whole))
            self.assertEqual(row, before)

    def test_noughts_among_them(self):
        self.assertEqual(total([NOUGHT, HALF, NOUGHT, (1, 3)]), (5, 6))
        self.assertEqual(product([HALF, NOUGHT, (1, 3)]), NOUGHT)
        self.assertEqual(total((NOUGHT, NOUGHT)), NOUGHT)
        self.assertEqual(product((NOUGHT, NOUGHT)), NOUGHT)

    def test_whatever_row(self):
        row = [(1, 2), (-1, 3), (5, 7), (0, 1)]
        for other in itertools.permutations(row):
            self.assertEqual(total(other), (37, 42))
            self.assertEqual(product(list(other)), NOUGHT)
            self.assertEqual(product(other[:3]), product(list(other[2::-1])))

    def test_many(self):
        self.assertEqual(total([share_of(1, k * (k + 1)) for k in range(1, 500)]), (499, 500))
        self.assertEqual(product([share_of(k, k + 1) for k in range(1, 500)]), (1, 500))

    def test_by_name(self):
        self.assertEqual(total(shares=[HALF, HALF]), ONE)
        self.assertEqual(product(shares=(HALF, HALF)), (1, 4))


if __name__ == "__main__":
    unittest.main()
