"""What point 5 says of lines."""

import unittest

from crossmarks.lines import is_line
from tests.support import Checks, nested, of_other_kinds, whatever

TWO = ((1, 2), (1, 2))
UNEVEN = ((1, 9999), (9998, 9999))
THREE = ((1, 2), (1, 3), (1, 6))
EVEN_THREE = ((1, 3), (1, 3), (1, 3))
LONG = ((1, 10 ** 99), (10 ** 99 - 1, 10 ** 99))

LINES = [
    ((TWO,), ()),
    ((UNEVEN,), ()),
    ((THREE,), ()),
    ((LONG,), ()),
    ((TWO, TWO), ((0, 1),)),
    ((TWO, THREE), ((1, 2),)),
    ((THREE, UNEVEN), ((1, 10),)),
    ((EVEN_THREE, TWO, THREE), ((1, 3), (0, 1))),
    ((TWO, TWO, TWO), ((1, 2), (4999, 9999))),
    ((THREE, THREE, THREE), ((1, 9999), (1, 2))),
    ((TWO, TWO), ((10 ** 99 - 1, 2 * 10 ** 99),)),
]


def one_mark(*shares):
    return ((shares,), ())


def one_gap(gap):
    return ((TWO, TWO), (gap,))


class IsLineTest(Checks):
    def test_lines(self):
        self.assert_all_true(is_line, LINES)
        self.assertIs(is_line(thing=((TWO,), ())), True)

    def test_how_many_marks(self):
        self.assert_all_false(is_line, [
            ((), ()), ((TWO,) * 4, ((1, 2),) * 3), ((TWO,) * 5, ((0, 1),) * 4), ((), ((1, 2),)),
        ])

    def test_how_many_kinds(self):
        quarter = (1, 4)
        self.assert_all_false(is_line, [
            one_mark(), one_mark((1, 1)), one_mark(quarter, quarter, quarter, quarter),
            ((TWO, ((1, 1),)), ((1, 2),)), (((quarter,) * 4, TWO), ((1, 2),)), ((TWO, ()), ((1, 2),)),
        ])

    def test_shares_that_are_not_in_their_one_way(self):
        self.assert_all_false(is_line, [
            one_mark((2, 4), (1, 2)), one_mark((1, 2), (2, 4)), one_mark((-1, -2), (1, 2)), one_mark((1, 2), (1, 0)),
            one_gap((0, 2)), one_gap((2, 4)), one_gap((2, 8)), one_gap((-1, -4)), one_gap((0, -1)), one_gap((0, 0)),
        ])

    def test_shares_that_do_not_come_to_one(self):
        self.assert_all_false(is_line, [
            one_mark((1, 2), (1, 3)), one_mark((1, 2), (2, 3)), one_mark((1, 3), (1, 3)), one_mark((1, 1), (1, 1)),
            one_mark((1, 3), (1, 3), (1, 2)), one_mark((1, 2), (1, 2), (1, 2)), one_mark((1, 9999), (9997, 9999)),
            ((TWO, ((1, 2), (1, 3))), ((1, 2),)), ((((1, 5), (1, 2)), TWO), ((1, 2),)),
        ])

    def test_shares_of_nought_or_below(self):
        self.assert_all_false(is_line, [
            one_mark((0, 1), (1, 1)), one_mark((1, 1), (0, 1)), one_mark((0, 1), (1, 2), (1, 2)),
            one_mark((1, 2), (1, 2), (0, 1)), one_mark((-1, 2), (3, 2)), one_mark((3, 2), (-1, 2)),
            one_mark((1, 1), (1, 1), (-1, 1)), one_mark((-1, 3), (2, 3), (2, 3)),
        ])

    def test_gaps_beyond(self):
        self.assert_all_true(is_line, [one_gap((0, 1)), one_gap((1, 2)), one_gap((1, 9999)), one_gap((4999, 9999))])
        self.assert_all_false(is_line, [
            one_gap((-1, 9999)), one_gap((-1, 2)), one_gap((5000, 9999)), one_gap((2, 3)), one_gap((1, 1)),
            one_gap((5, 1)), one_gap((-5, 1)),
            ((TWO, TWO, TWO), ((1, 2), (2, 3))), ((TWO, TWO, TWO), ((-1, 3), (1, 2))),
        ])

    def test_a_gap_more_or_fewer(self):
        gap = (1, 4)
        self.assert_all_false(is_line, [
            ((TWO,), (gap,)), ((TWO, TWO), ()), ((TWO, TWO), (gap, gap)), ((TWO, TWO, TWO), (gap,)),
            ((TWO, TWO, TWO), (gap, gap, gap)), ((TWO, TWO, TWO), ()), ((TWO,), gap),
        ])

    def test_a_part_more_or_fewer(self):
        self.assert_all_false(is_line, [
            (), ((TWO,),), ((TWO,), (), ()), ((TWO,), (), None), ((), (TWO,)), (((1, 4),), (TWO, TWO)), TWO, (TWO, ()),
        ])

    def test_truths_for_numbers(self):
        self.assert_all_false(is_line, [
            one_mark((True, 2), (1, 2)), one_mark((1, 2), (True, 2)), one_gap((False, 1)), one_gap((0, True)),
            one_gap((True, 2)), one_gap(False), one_mark(True, False),
        ])

    def test_lists_for_tuples(self):
        self.assert_all_false(is_line, [
            [(TWO,), ()], ([TWO], ()), ((list(TWO),), ()), ((([1, 2], (1, 2)),), ()), ((TWO,), []),
            ((TWO, TWO), [(1, 2)]), ((TWO, TWO), ([1, 2],)),
        ])

    def test_other_kinds(self):
        self.assert_all_false(is_line, whatever())
        self.assert_all_false(is_line, [
            ("a", ()), (("ab",), ()), ((("1/2", "1/2"),), ()), one_mark("1/2", "1/2"), one_gap("1/2"), one_gap(None),
            one_gap(0), (TWO, None), (None, ()), ((None,), ()), ({0: TWO}, ()), ((TWO,), {}), ((TWO,), None),
            ((TWO,), ""), ("", ""), ((nested(tuple, 28),), ()), ((TWO, TWO), (nested(list, 28),)),
        ])
        for line in LINES:
            self.assert_all_false(is_line, of_other_kinds(line))


if __name__ == "__main__":
    unittest.main()
