"""What point 5 says of what is seen and of cases."""

import itertools
import unittest

from crossmarks.cases import case_of, is_case, is_seen
from crossmarks.errors import CrossError, NoCase
from tests.samples import HALVES, THREE, THIRDS, line, random_cases
from tests.support import Checks, nested, of_other_kinds, whatever

FAMILY = (None, None, (0, 1), (2, 0))
LINE = line([HALVES, THREE], (1, 10))
ALL_TWO = ((0, 0), (0, 1), (1, 1))
ALL_THREE = ((0, 0), (0, 1), (0, 2), (1, 1), (1, 2), (2, 2))
EIGHT = tuple([(member, mark, ((0, 1),)) for member in range(4) for mark in range(2)])
SEENS = [
    (),
    ((0, 0, ((0, 0),)),),
    ((3, 1, ((2, 2),)),),
    ((0, 0, ALL_TWO), (0, 1, ALL_THREE)),
    ((0, 1, ((0, 2), (1, 1))), (1, 0, ((0, 0),))),
    ((0, 1, ((2, 2),)), (2, 0, ((0, 0), (1, 1))), (2, 1, ((0, 0), (0, 1)))),
    EIGHT,
] + [EIGHT[:many] for many in range(8)]
FIVE = (None, None, None, None, None)
THREE_MARKS = line([HALVES, HALVES, HALVES], (0, 1), (1, 2))
NINE = tuple([(member, mark, ((0, 1),)) for member in range(3) for mark in range(3)])


def seen_here(thing):
    return is_seen(FAMILY, LINE, thing)


def one_seen(pairs, member=0, mark=0):
    return ((member, mark, pairs),)


class IsSeenTest(Checks):
    def test_seen(self):
        self.assert_all_true(seen_here, SEENS)
        self.assertIs(is_seen(thing=(), line=LINE, family=FAMILY), True)

    def test_each_member_and_mark(self):
        for member in range(-2, 6):
            for mark in range(-2, 4):
                wanted = 0 <= member < 4 and 0 <= mark < 2
                self.assertIs(seen_here(one_seen(((0, 1),), member, mark)), wanted)

    def test_each_row_of_pairs(self):
        pairs = list(itertools.product(range(-1, 4), repeat=2))
        for kinds, mark in ((2, 0), (3, 1)):
            for pair in pairs:
                wanted = 0 <= pair[0] <= pair[1] < kinds
                self.assertIs(seen_here(one_seen((pair,), 1, mark)), wanted, (pair, kinds))
        for row in itertools.product(ALL_THREE, repeat=2):
            self.assertIs(seen_here(one_seen(row, 2, 1)), row[0] < row[1])
        for row in itertools.product(ALL_TWO, repeat=3):
            self.assertIs(seen_here(one_seen(row, 2, 0)), row == ALL_TWO)

    def test_pairs_that_are_none(self):
        self.assert_all_false(seen_here, [
            one_seen(()), one_seen(((1, 0),)), one_seen(((0, 1), (0, 1))), one_seen(((0, 1), (0, 0))),
            one_seen(((0, 2),)), one_seen(((2, 2),)), one_seen(((0, 0), (0, 3)), 0, 1), one_seen(((-1, 0),)),
            one_seen(((0,),)), one_seen(((0, 0, 0),)), one_seen((0, 1)), one_seen(((0, 0), (1, 0), (1, 1))),
            one_seen(ALL_TWO + ((1, 1),)), one_seen(ALL_THREE), one_seen(ALL_THREE * 2, 0, 1), one_seen(None),
        ])

    def test_nine_seen(self):
        self.assertIs(is_seen(FIVE, THREE_MARKS, NINE), False)
        self.assertIs(is_seen(FIVE, THREE_MARKS, NINE[:8]), True)
        self.assertIs(is_seen(FIVE, THREE_MARKS, NINE[1:]), True)
        self.assertIs(is_seen(FIVE, THREE_MARKS, NINE * 500), False)

    def test_two_of_one_member_and_mark(self):
        self.assert_all_false(seen_here, [
            ((0, 0, ((0, 0),)), (0, 0, ((0, 1),))), ((0, 0, ((0, 0),)), (0, 0, ((0, 0),))),
            ((0, 0, ((0, 0),)), (1, 1, ((0, 0),)), (1, 1, ((0, 0), (0, 1)))),
        ])

    def test_seen_that_do_not_rise(self):
        rows = EIGHT[:3]
        for other in itertools.permutations(rows):
            self.assertIs(seen_here(other), other == rows)
        self.assert_all_false(seen_here, [((1, 0, ((0, 0),)), (0, 1, ((1, 1),))), EIGHT[::-1], EIGHT[1:] + EIGHT[:1]])

    def test_truths_for_numbers(self):
        self.assert_all_false(seen_here, [
            one_seen(((0, 1),), False), one_seen(((0, 1),), True), one_seen(((0, 1),), 0, False),
            one_seen(((0, 1),), 0, True), one_seen(((False, 1),)), one_seen(((0, True),)), one_seen(((False, True),)),
        ])

    def test_lists_for_tuples(self):
        self.assert_all_false(seen_here, [
            [], [(0, 0, ((0, 1),))], ([0, 0, ((0, 1),)],), one_seen([(0, 1)]), one_seen(([0, 1],)), list(EIGHT),
        ])

    def test_parts_exchanged_more_or_fewer(self):
        self.assert_all_false(seen_here, [
            ((((0, 1),), 0, 0),), ((0, ((0, 1),), 0),), ((0, 0),), ((0, ((0, 1),)),), ((0, 0, ((0, 1),), 0),),
            (0, 0, ((0, 1),)), ((),), (((0, 1),),), ((0, 0, 0, 1),), ((0, 0, (0, 1)),),
        ])

    def test_other_kinds(self):
        self.assert_all_false(seen_here, [thing for thing in whatever() if thing != ()])
        self.assert_all_false(seen_here, [
            one_seen("01"), one_seen(("01",)), one_seen((("0", "1"),)), one_seen({}), one_seen(((0, 1),), "0"),
            one_seen(((0, 1),), None), one_seen(((0, 1),), 0, ()), one_seen(((None, 1),)), one_seen(nested(tuple, 28)),
            one_seen((nested(list, 27),)),
        ])
        for seen in SEENS:
            self.assert_all_false(seen_here, of_other_kinds(seen))

    def test_the_family_and_the_line_say_what_may_be_seen(self):
        self.assertIs(is_seen((None,), line([HALVES]), one_seen(((0, 1),), 1)), False)
        self.assertIs(is_seen((None, None), line([HALVES]), one_seen(((0, 1),), 1)), True)
        self.assertIs(is_seen((None,), line([HALVES]), one_seen(((1, 2),))), False)
        self.assertIs(is_seen((None,), line([THREE]), one_seen(((1, 2),))), True)
        self.assertIs(is_seen((None,), line([HALVES, THREE], (0, 1)), one_seen(((1, 2),), 0, 1)), True)
        self.assertIs(is_seen((None,), line([THREE, HALVES], (0, 1)), one_seen(((1, 2),), 0, 1)), False)


class IsCaseTest(Checks):
    def test_cases(self):
        self.assert_all_true(is_case, [(FAMILY, LINE, seen) for seen in SEENS])
        self.assert_all_true(is_case, random_cases(200, 10 ** 9))
        self.assertIs(is_case(thing=((None,), line([HALVES]), ())), True)

    def test_parts_that_are_none(self):
        self.assert_all_false(is_case, [
            ((), LINE, ()), ((None, (0, 1)), LINE, ()), (FAMILY, ((), ()), ()), (FAMILY, line([HALVES, THREE]), ()),
            (FAMILY, LINE, ((4, 0, ((0, 1),)),)), (FAMILY, LINE, ((0, 2, ((0, 1),)),)), (FAMILY, LINE, NINE),
            (FIVE, THREE_MARKS, NINE), (None, LINE, ()), (FAMILY, None, ()), (FAMILY, LINE, None),
        ])

    def test_parts_exchanged_more_or_fewer(self):
        self.assert_all_false(is_case, [
            (), (FAMILY,), (FAMILY, LINE), (FAMILY, LINE, (), ()), (LINE, FAMILY, ()), ((), FAMILY, LINE),
            (FAMILY, (), LINE), (FAMILY, HALVES, (), ()), ((FAMILY, LINE, ()),), FAMILY, LINE,
        ])

    def test_other_kinds(self):
        self.assert_all_false(is_case, whatever())
        for seen in ((), EIGHT[:2]):
            self.assert_all_false(is_case, of_other_kinds((FAMILY, LINE, seen)))
        self.assert_all_false(is_case, [
            [FAMILY, LINE, ()], (list(FAMILY), LINE, ()), (FAMILY, list(LINE), ()), (FAMILY, LINE, []),
        ])


class CaseOfTest(Checks):
    def test_tuples_and_lists(self):
        seen = EIGHT[:3]
        wanted = (FAMILY, LINE, seen)
        for kinds in itertools.product((tuple, list), repeat=4):
            given = [kind(part) for kind, part in zip(kinds, (FAMILY, LINE[0], LINE[1], seen))]
            self.assertEqual(case_of(given[0], given[1], gaps=given[2], seen=given[3]), wanted)
            self.assertIs(is_case(case_of(given[0], given[1], gaps=given[2], seen=given[3])), True)

    def test_by_name_and_left_out(self):
        self.assertEqual(case_of((None,), (HALVES,)), ((None,), ((HALVES,), ()), ()))
        self.assertEqual(case_of(marks=[HALVES], family=[None]), ((None,), ((HALVES,), ()), ()))
        self.assertEqual(case_of(FAMILY, LINE[0], gaps=LINE[1]), (FAMILY, LINE, ()))
        self.assertEqual(case_of((None,), marks=(THIRDS,), seen=[(0, 0, ((1, 1),))]),
                         ((None,), ((THIRDS,), ()), ((0, 0, ((1, 1),)),)))

    def test_gaps_and_seen_by_names_alone(self):
        with self.assertRaises(TypeError):
            case_of(FAMILY, LINE[0], LINE[1])

    def test_random_cases(self):
        for case in random_cases(100, 10 ** 9, 11):
            family, (marks, gaps), seen = case
            self.assertEqual(case_of(family, list(marks), gaps=list(gaps), seen=seen), case)

    def test_lists_changed_behind(self):
        family, marks, gaps, seen = list(FAMILY), list(LINE[0]), list(LINE[1]), list(EIGHT[:2])
        case = case_of(family, marks, gaps=gaps, seen=seen)
        for part in (family, marks, gaps, seen):
            part.append(None)
            part[0] = "a"
        self.assertEqual(case, (FAMILY, LINE, EIGHT[:2]))

    def assert_no_case(self, part, *given, **named):
        error = self.assert_refused(NoCase, case_of, *given, **named)
        self.assertEqual(error.part, part)
        self.assertIsInstance(error, CrossError)
        self.assertIsInstance(error, ValueError)

    def test_family_is_none(self):
        wrong = [thing for thing in whatever() if thing != [None]] + [(), [], [None, (0, 1)], (None, None, [0, 1])]
        for family in wrong:
            self.assert_no_case("family", family, LINE[0], gaps=LINE[1])
            self.assert_no_case("family", family, None, gaps=None, seen=None)

    def test_line_is_none(self):
        for marks in whatever():
            self.assert_no_case("line", FAMILY, marks)
            self.assert_no_case("line", FAMILY, marks, gaps=(), seen=None)
        for gaps in whatever():
            if gaps not in ([], [(0, 1)], ((0, 1),)):
                self.assert_no_case("line", FAMILY, LINE[0], gaps=gaps, seen="a")
                self.assert_no_case("line", FAMILY, (HALVES,), gaps=gaps)
        for marks in ([list(HALVES)], ([(1, 2), (1, 2)],), [((1, 2), [1, 2])], (THREE, HALVES), (HALVES,) * 4, ()):
            self.assert_no_case("line", FAMILY, marks)
        self.assert_no_case("line", FAMILY, (HALVES, HALVES), gaps=([1, 2],))
        self.assert_no_case("line", FAMILY, (HALVES, HALVES), gaps=[(2, 3)])

    def test_seen_is_none(self):
        for seen in whatever():
            if seen not in ([], ()):
                self.assert_no_case("seen", FAMILY, LINE[0], gaps=LINE[1], seen=seen)
        for seen in ([[0, 0, ((0, 1),)]], [(0, 0, [(0, 1)])], ((0, 0, ([0, 1],)),), EIGHT[::-1], EIGHT * 2,
                     ((0, 0, ((0, 2),)),), ((4, 0, ((0, 1),)),)):
            self.assert_no_case("seen", FAMILY, LINE[0], gaps=LINE[1], seen=seen)
        self.assert_no_case("seen", FIVE, THREE_MARKS[0], gaps=THREE_MARKS[1], seen=NINE)


if __name__ == "__main__":
    unittest.main()
