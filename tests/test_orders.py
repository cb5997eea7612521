"""Point 11, and what point 10 says of what is no order."""

import itertools
import random
import unittest

from crossmarks.cases import case_of
from crossmarks.casetables import tables_of
from crossmarks.errors import CrossError, NoOrder
from crossmarks.orders import good_order, need_order, width
from crossmarks.peeling import peeled
from tests.samples import FAMILIES, HALVES, THIRDS, THREE, plain_things, random_cases, wide_cases
from tests.support import Checks, nested, of_other_kinds, whatever

TRIO = case_of((None, None, (0, 1)), (HALVES,))
TRIO_THINGS = (("pair", 0, 0), ("pair", 1, 0), ("pair", 2, 0), ("turn", 2, 0, 0), ("turn", 2, 1, 0))
ONE = case_of((None,), (THREE,))


def shuffled(case, chance):
    things = plain_things(case)
    chance.shuffle(things)
    return tuple(things)


def plain_scope(scopes, thing):
    return set().union(*[scope for scope in scopes if thing in scope])


def plain_without(scopes, thing):
    return [scope for scope in scopes if thing not in scope] + [plain_scope(scopes, thing) - {thing}]


def plain_good_order(case):
    """The order by the words of point 11."""
    scopes = [set(things) for things, rows in tables_of(case)]
    left = set(plain_things(case))
    order = []
    while left:
        order.append(min([(len(plain_scope(scopes, thing)), thing) for thing in left])[1])
        left.remove(order[-1])
        scopes = plain_without(scopes, order[-1])
    return tuple(order)


def plain_width(case, order):
    scopes = [set(things) for things, rows in tables_of(case)]
    sizes = []
    for thing in order:
        sizes.append(len(plain_scope(scopes, thing)))
        scopes = plain_without(scopes, thing)
    return max(sizes)


def some_cases():
    found = random_cases(60, 10 ** 9, 21) + wide_cases(10, 100, 21)
    for family in FAMILIES:
        found += [case_of(family, (HALVES,)), case_of(family, (HALVES, THREE, THIRDS), gaps=((0, 1), (1, 2)))]
    return found


def wrong_orders(case):
    """Things that are no order of the case, made of its things."""
    things = tuple(plain_things(case))
    more = [
        things[1:], things[:-1], (), things + things[:1], things + things, things[1:] + things[1:2],
        things + (("pair", 9, 9),), things[:-1] + (("pair", 9, 9),), things + (None,), things[:-1] + (None,),
        things + ((),), list(things), dict.fromkeys(things), dict(enumerate(things)), str(things), (things,), [things],
        tuple([list(thing) for thing in things]), tuple([str(thing) for thing in things]), tuple(range(len(things))),
        things[:-1] + (("turn", 0, 0, 0),), things[:-1] + (("pair", -1, 0),), len(things),
        (None,) * len(things), ("pair",) * len(things), (nested(list, 29),) * len(things),
        (nested(tuple, 29),) * len(things), (nested(dict, 29),) * len(things),
    ]
    for number, thing in enumerate(things):
        more.append(things[:number] + things[number + 1:])
        more.append(things[:number] + (thing,) + things[number:])
        for place in range(1, len(thing)):
            for part in (True, False, str(thing[place]), [thing[place]], None, thing[place] + 5, -1):
                more.append(things[:number] + (thing[:place] + (part,) + thing[place + 1:],) + things[number + 1:])
    return more


class NeedOrderTest(Checks):
    def assert_no_order(self, case, thing):
        for deed in (need_order, peeled, width):
            error = self.assert_refused(NoOrder, deed, case, thing)
            self.assertIsInstance(error, CrossError)

    def test_none_of_an_order(self):
        for order in itertools.permutations(TRIO_THINGS):
            self.assertIsNone(need_order(TRIO, order))
        chance = random.Random(3)
        for case in some_cases():
            before = repr(case)
            self.assertIsNone(need_order(case, shuffled(case, chance)))
            self.assertIsNone(need_order(case, tuple(plain_things(case))))
            self.assertEqual(repr(case), before)

    def test_by_name(self):
        self.assertIsNone(need_order(thing=TRIO_THINGS, case=TRIO))
        self.assert_refused(NoOrder, need_order, thing=(), case=TRIO)
        self.assert_refused(NoOrder, peeled, order=(), case=TRIO)
        self.assert_refused(NoOrder, width, order=(), case=TRIO)

    def test_made_of_the_things(self):
        for case in (TRIO, ONE, case_of((None, None, (0, 1), (2, 0)), (HALVES, THREE), gaps=((1, 10),))):
            for thing in wrong_orders(case):
                self.assert_no_order(case, thing)

    def test_other_kinds(self):
        for order in (TRIO_THINGS, (("pair", 0, 0),)):
            case = TRIO if len(order) == 5 else ONE
            for thing in of_other_kinds(order):
                self.assert_no_order(case, thing)

    def test_whatever(self):
        for thing in whatever() + [(("pair", 0, 0),) * 4999, nested(tuple, 5), tuple("pairs"), "pairs"]:
            self.assert_no_order(TRIO, thing)
            self.assert_no_order(ONE, thing)

    def test_orders_of_other_cases(self):
        two_marks = case_of((None, None, (0, 1)), (HALVES, HALVES), gaps=((0, 1),))
        two_children = case_of((None, None, (0, 1), (0, 1)), (HALVES,))
        founders = case_of((None,) * 5, (HALVES,))
        cases = [TRIO, ONE, two_marks, two_children, founders]
        for case, other in itertools.permutations(cases, 2):
            self.assert_no_order(case, tuple(plain_things(other)))
            self.assert_no_order(case, good_order(other))


class GoodOrderTest(Checks):
    def test_by_hand(self):
        self.assertEqual(good_order(ONE), (("pair", 0, 0),))
        self.assertEqual(good_order(case_of((None, None), (HALVES, THREE), gaps=((0, 1),))), (
            ("pair", 0, 0), ("pair", 0, 1), ("pair", 1, 0), ("pair", 1, 1)))
        self.assertEqual(good_order(TRIO), (
            ("pair", 0, 0), ("turn", 2, 0, 0), ("pair", 1, 0), ("pair", 2, 0), ("turn", 2, 1, 0)))

    def test_by_the_words(self):
        for case in some_cases():
            before = repr(case)
            order = good_order(case)
            self.assertEqual(order, plain_good_order(case))
            self.assertIsNone(need_order(case, order))
            self.assertEqual(good_order(case), order)
            self.assertEqual(repr(case), before)

    def test_whatever_rows_there_are(self):
        family = (None, None, (0, 1), (2, 0))
        bare = good_order(case_of(family, (HALVES, HALVES), gaps=((1, 10),)))
        seen = [(0, 0, ((0, 0),)), (2, 1, ((0, 1),)), (3, 0, ((1, 1),))]
        for gap in ((0, 1), (1, 2)):
            for marks in ((HALVES, HALVES), (THREE, THIRDS)):
                self.assertEqual(good_order(case_of(family, marks, gaps=(gap,), seen=seen)), bare)

    def test_by_name(self):
        self.assertEqual(good_order(case=ONE), (("pair", 0, 0),))


class WidthTest(Checks):
    def test_by_hand(self):
        p0, p1, p2, t0, t1 = TRIO_THINGS
        self.assertEqual(width(ONE, (("pair", 0, 0),)), 1)
        for order, wanted in (
                ((p0, p1, p2, t0, t1), 3), ((p2, p0, p1, t0, t1), 5), ((t0, t1, p0, p1, p2), 3),
                ((t0, p2, p0, p1, t1), 4), ((p0, p2, p1, t0, t1), 4), ((p0, t0, p2, p1, t1), 3),
                ((t0, t1, p2, p0, p1), 3)):
            self.assertEqual(width(TRIO, order), wanted)

    def test_by_the_words(self):
        chance = random.Random(4)
        for case in some_cases():
            for order in (shuffled(case, chance), shuffled(case, chance), good_order(case), tuple(plain_things(case))):
                self.assertEqual(width(case, order), plain_width(case, order))

    def test_the_good_order_of_all_small_cases_is_thin(self):
        for family in FAMILIES:
            case = case_of(family, (HALVES,))
            self.assertLessEqual(width(case, good_order(case)), 5)

    def test_by_name(self):
        self.assertEqual(width(order=TRIO_THINGS, case=TRIO), 3)


if __name__ == "__main__":
    unittest.main()
