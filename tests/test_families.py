"""What point 5 says of families."""

import itertools
import unittest

from crossmarks.families import elder, founders, is_family
from tests.support import Checks, nested, of_other_kinds, whatever

FAMILIES = [
    (None,),
    (None, None),
    (None, None, None),
    (None, None, (0, 1)),
    (None, None, (1, 0)),
    (None, None, (0, 1), (0, 2)),
    (None, None, (0, 1), None, (3, 2)),
    (None, None, (0, 1), (0, 1), (2, 3)),
    (None, None, (1, 0), (2, 0), (3, 2)),
    (None, None, None, (0, 2), (3, 1)),
    (None, None, None, None, None),
]


class IsFamilyTest(Checks):
    def test_families(self):
        self.assert_all_true(is_family, FAMILIES)
        self.assertIs(is_family(thing=(None,)), True)

    def test_each_small_row_of_members(self):
        members = [None] + list(itertools.product(range(-1, 5), repeat=2))
        many = {1: 1, 2: 1, 3: 3, 4: 21}
        for length in (1, 2, 3):
            rows = itertools.product(members, repeat=length)
            self.assertEqual(sum([is_family(row) for row in rows]), many[length])
        rows = [(None, None) + row for row in itertools.product(members, repeat=2)]
        self.assertEqual(sum([is_family(row) for row in rows]), many[4])

    def test_each_fifth_member(self):
        ahead = (None, None, (0, 1), None)
        for pair in itertools.product(range(-2, 7), repeat=2):
            one, other = pair
            wanted = one != other and 0 <= one < 4 and 0 <= other < 4
            self.assertIs(is_family(ahead + (pair,)), wanted, pair)

    def test_how_many_members(self):
        self.assert_all_false(is_family, [(), (None,) * 6, (None,) * 5 + ((0, 1),), (None,) * 4999])

    def test_members_that_are_none(self):
        self.assert_all_false(is_family, [
            ((0, 1),), (None, (0, 1)), (None, None, (0, 2)), (None, None, (2, 0)), (None, None, (1, 3)),
            (None, (0, 2), None), (None, None, (-1, 0)), (None, None, (0, -1)), (None, None, (0, 0)),
            (None, None, (1, 1)), (None, None, (0,)), (None, None, (0, 1, 1)), (None, None, (0, 1, None)),
            (None, None, ()), (None, None, (0, None)), (None, None, (None, None)), (None, None, (0, 10 ** 99)),
        ])

    def test_truths_for_numbers(self):
        self.assert_all_false(is_family, [
            (None, None, (False, True)), (None, None, (0, True)), (None, None, (False, 1)), (None, None, True),
            (False,), (None, False),
        ])

    def test_lists_for_tuples(self):
        self.assert_all_false(is_family, [
            [None], [None, None, (0, 1)], (None, None, [0, 1]), [None, None, [0, 1]], (None, None, (0, [1])), ([],),
        ])

    def test_other_kinds(self):
        self.assert_all_false(is_family, whatever())
        self.assert_all_false(is_family, [
            (0,), ("",), (None, None, "01"), (None, None, ("0", "1")), {0: None}, (None, {}), (None, None, {0: 1}),
            (nested(tuple, 29),), (None, None, (nested(tuple, 28), 1)), (None, None, (0, nested(list, 28))),
        ])
        for family in FAMILIES:
            self.assert_all_false(is_family, of_other_kinds(family))


class FoundersTest(Checks):
    def test_founders(self):
        for family in FAMILIES:
            wanted = [number for number, member in enumerate(family) if member is None]
            self.assertEqual(founders(family), wanted)
            self.assertIsInstance(founders(family), list)
        self.assertEqual(founders((None, None, (0, 1), None, (3, 2))), [0, 1, 3])

    def test_the_list_is_the_askers_own(self):
        family = (None, None, (0, 1))
        told = founders(family)
        told.append(9)
        told[0] = 7
        self.assertEqual(founders(family), [0, 1])

    def test_by_name(self):
        self.assertEqual(founders(family=(None, None, (0, 1))), [0, 1])


class ElderTest(Checks):
    def test_both_sides(self):
        for family in FAMILIES:
            for number, member in enumerate(family):
                if member is not None:
                    self.assertEqual((elder(family, number, 0), elder(family, number, 1)), member)
        self.assertEqual(elder((None, None, (1, 0), (2, 0)), 2, 0), 1)
        self.assertEqual(elder((None, None, (1, 0), (2, 0)), 3, 1), 0)

    def test_by_name(self):
        self.assertEqual(elder(side=1, member=2, family=(None, None, (1, 0))), 0)


if __name__ == "__main__":
    unittest.main()
