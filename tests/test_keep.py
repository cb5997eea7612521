"""Point 22: a keep, and what point 3 says of it."""

import copy
import itertools
import random
import unittest

from crossmarks.cases import case_of
from crossmarks.errors import CrossError, NoCase, NoOrder, NoThing
from crossmarks.keep import Keep
from crossmarks.orders import good_order, width
from crossmarks.peeling import peeled
from crossmarks.states import full_sum
from tests.keeping import changed, hanging_on, random_deed, shuffled_order
from tests.samples import HALVES, THIRDS, THREE, plain_things, random_cases, ways, wide_cases
from tests.support import Checks, nested, of_other_kinds, whatever
from tests.unfit import unfit_cases

LOW, HET, HIGH = ((0, 0),), ((0, 1),), ((1, 1),)
TRIO = (None, None, (0, 1))
CASE = case_of(TRIO, (HALVES, THREE), gaps=((1, 10),), seen=((0, 0, LOW + HET), (2, 1, ((0, 2), (1, 1)))))
FULL = case_of(
    (None, None, (0, 1)), (HALVES,) * 3, gaps=((0, 1), (1, 3)),
    seen=[place + (LOW + HET,) for place in itertools.product(range(3), range(3))][:8])
THINGS = (("pair", 0, 0), ("pair", 1, 0), ("pair", 2, 0), ("turn", 2, 0, 0), ("turn", 2, 1, 0))


def told_by(keep):
    """All that a keep tells, the weight last, as it makes tables."""
    return (keep.case(), keep.order(), keep.made(), keep.stands(), keep.weight())


def many_cases():
    return random_cases(30, 600, 41) + wide_cases(8, 500, 42)


def no_seen():
    """Things (member, mark, pairs) that make no case with CASE."""
    found = [
        (3, 0, LOW), (-1, 0, LOW), (0, 2, LOW), (0, -1, LOW), (10 ** 99, 0, LOW), (0, 10 ** 99, LOW),
        (True, 0, LOW), (False, 0, LOW), (0, True, LOW), (0, False, LOW), ("0", 0, LOW), (0, "0", LOW),
        (None, 0, LOW), (0, None, LOW), ((0,), 0, LOW), ([0], 0, LOW), (0, [0], LOW), (0, {}, LOW),
        (0, 0, ()), (0, 0, HET + LOW), (0, 0, LOW + LOW), (0, 0, ((1, 0),)), (0, 0, ((0, 2),)), (0, 0, ((2, 2),)),
        (0, 1, ((0, 3),)), (0, 1, ((3, 3),)), (0, 0, ((-1, 0),)), (0, 0, ((0, True),)), (0, 0, ((False, 1),)),
        (0, 0, [(0, 0)]), (0, 0, ([0, 0],)), (0, 0, ((0,),)), (0, 0, ((0, 0, 0),)), (0, 0, (0, 0)), (0, 0, "0:0"),
        (0, 0, None), (0, 0, {(0, 0): True}), (0, 0, ("00",)), (0, 0, ((0, "0"),)), (0, 0, LOW + ((0, 1, 1),)),
    ]
    found += [(0, 0, pairs) for pairs in of_other_kinds(LOW + HET)]
    found += [(thing, 0, LOW) for thing in whatever() if thing not in (0, 1) or isinstance(thing, bool)]
    found += [(0, thing, LOW) for thing in whatever() if thing not in (0, 1) or isinstance(thing, bool)]
    found += [(0, 0, thing) for thing in whatever() if thing != ((0, 1),)]
    return found


def no_gaps():
    """Things (number, share) that make no case with CASE."""
    found = [
        (1, (1, 3)), (-1, (1, 3)), (2, (1, 3)), (10 ** 99, (1, 3)), (True, (1, 3)), (False, (1, 3)), ("0", (1, 3)),
        (None, (1, 3)), ([0], (1, 3)), ((0,), (1, 3)), ({}, (1, 3)), (0, (-1, 3)), (0, (2, 3)), (0, (1, 1)),
        (0, (5001, 10000)), (0, (2, 4)), (0, (0, 2)), (0, (1, 0)), (0, (-1, -3)), (0, (1, -3)), (0, (True, 2)),
        (0, (0, True)), (0, (False, 1)), (0, [1, 3]), (0, "1/3"), (0, 0), (0, None), (0, (1, 3, 1)), (0, (1,)),
        (0, ((1, 3),)), (0, {1: 3}), (0, ("1", 3)), (0, (10 ** 99, 3)), (0, nested(tuple, 30)),
    ]
    found += [(0, share) for share in of_other_kinds((1, 3))]
    found += [(0, thing) for thing in whatever() if thing != (0, 1)]
    return found + [(thing, (1, 3)) for thing in whatever() if thing != 0 or isinstance(thing, bool)]


class KeepTest(Checks):
    def test_by_hand(self):
        keep = Keep(case_of(TRIO, (THIRDS,), seen=((2, 0, HET),)))
        self.assertEqual(keep.order(), good_order(keep.case()))
        self.assertEqual((keep.made(), keep.stands()), (0, []))
        self.assertEqual(keep.weight(), (4, 9))
        self.assertEqual((keep.made(), keep.stands()), (5, list(THINGS)))
        self.assertIsNone(keep.see(0, 0, LOW))
        self.assertEqual(keep.case(), case_of(TRIO, (THIRDS,), seen=((0, 0, LOW), (2, 0, HET))))
        self.assertEqual(keep.weight(), (2, 27))
        self.assertIsNone(keep.forget(2, 0))
        self.assertEqual(keep.weight(), (1, 9))
        self.assertEqual(keep.case(), case_of(TRIO, (THIRDS,), seen=((0, 0, LOW),)))

    def test_which_tables_go_by_hand(self):
        p0, p1, p2, t0, t1 = THINGS
        keep = Keep(case_of(TRIO, (THIRDS,)), (p0, t0, p1, t1, p2))
        keep.weight()
        keep.see(1, 0, LOW)
        # The one of p1 has p2 and t1; so t1 joins it, and p2 joins that.
        self.assertEqual(keep.stands(), [p0, t0])
        self.assertEqual(keep.weight(), (1, 9))
        self.assertEqual((keep.made(), keep.stands()), (8, list(THINGS)))
        keep.see(2, 0, LOW)
        self.assertEqual(keep.stands(), [p0, p1, t0, t1])
        self.assertEqual(keep.weight(), (1, 27))
        self.assertEqual(keep.made(), 9)
        keep.see(0, 0, HET)
        self.assertEqual(keep.stands(), [p1, t1])
        self.assertEqual(keep.weight(), (2, 81))
        self.assertEqual(keep.made(), 12)
        keep.forget(2, 0)
        self.assertEqual(keep.stands(), [p0, p1, t0, t1])

    def test_founders_apart_by_hand(self):
        keep = Keep(case_of((None, None), (THIRDS, HALVES), gaps=((1, 10),)))
        keep.weight()
        self.assertEqual(keep.made(), 4)
        keep.see(1, 0, HET)
        self.assertEqual(keep.stands(), [("pair", 0, 0), ("pair", 0, 1), ("pair", 1, 1)])
        keep.gap(0, (1, 3))
        self.assertEqual(keep.stands(), [("pair", 0, 0), ("pair", 0, 1), ("pair", 1, 1)])
        self.assertEqual(keep.weight(), (4, 9))
        self.assertEqual(keep.made(), 5)

    def test_a_gap_by_hand(self):
        case = case_of(TRIO, (HALVES, HALVES, HALVES), gaps=((1, 10), (1, 5)))
        turns = [("turn", 2, side, mark) for side in (0, 1) for mark in range(3)]
        pairs = [("pair", member, mark) for member in range(3) for mark in range(3)]
        keep = Keep(case, tuple(turns[:3] + turns[3:] + pairs))
        keep.weight()
        keep.gap(1, (1, 3))
        # The first turn of each string has the first gap alone; all others hang on its table, or on the second gap.
        self.assertEqual(keep.stands(), [("turn", 2, 0, 0), ("turn", 2, 1, 0)])
        keep.weight()
        keep.gap(0, (1, 3))
        self.assertEqual(keep.stands(), [])
        keep = Keep(case, tuple(turns[::-1] + pairs))
        keep.weight()
        keep.gap(0, (1, 3))
        self.assertEqual(keep.stands(), [("turn", 2, 0, 2), ("turn", 2, 1, 2)])

    def test_the_order(self):
        for case in many_cases():
            self.assertEqual(Keep(case).order(), good_order(case))
            self.assertEqual(Keep(case, None).order(), good_order(case))
            order = tuple(plain_things(case))
            self.assertEqual(Keep(case, order).order(), order)
            self.assertEqual(Keep(case, order).case(), case)

    def test_no_order(self):
        case = case_of(TRIO, (THIRDS,))
        wrong = [thing for thing in whatever() if thing is not None] + of_other_kinds(THINGS)
        wrong += [(), THINGS[:4], THINGS + THINGS[:1], THINGS[:4] + THINGS[:1], list(THINGS), THINGS[:4] + (("pair", 3, 0),),
                  THINGS[:4] + (("turn", 2, True, 0),), dict.fromkeys(THINGS), False, good_order(CASE)]
        for thing in wrong:
            if thing is not None:
                self.assertIsInstance(self.assert_refused(NoOrder, Keep, case, thing), CrossError)
                self.assert_refused(NoOrder, Keep, case=case, order=thing)

    def test_weight_is_that_of_peeling(self):
        chance = random.Random(43)
        for case in many_cases():
            weight = full_sum(case)
            self.assertEqual(Keep(case).weight(), weight)
            order = shuffled_order(case, chance)
            if width(case, order) <= 6:
                self.assertEqual(Keep(case, order).weight(), weight)
                self.assertEqual(peeled(case, order)[0], weight)

    def test_each_table_is_made_once(self):
        for case in many_cases() + unfit_cases():
            keep = Keep(case)
            self.assertEqual((keep.made(), keep.stands()), (0, []))
            weight = keep.weight()
            many = len(plain_things(case))
            self.assertEqual((keep.made(), keep.stands()), (many, plain_things(case)))
            self.assertEqual(keep.weight(), weight)
            self.assertEqual((keep.made(), keep.stands()), (many, plain_things(case)))

    def lead(self, keep, deed, given):
        """Does a deed to a keep, and checks what goes, is made and is told by the words of point 22."""
        before, made, stood = keep.case(), keep.made(), keep.stands()
        wanted = changed(before, deed, given)
        if wanted is None:
            with self.assertRaises((NoCase, NoThing)):
                getattr(keep, deed)(*given)
            self.assertEqual((keep.case(), keep.made(), keep.stands()), (before, made, stood))
            return
        self.assertIsNone(getattr(keep, deed)(*given))
        self.assertEqual(keep.case(), wanted)
        name = ("gap", given[0]) if deed == "gap" else ("seen",) + given[:2]
        gone = set()
        if wanted != before:
            gone = hanging_on(before, keep.order(), name) | hanging_on(wanted, keep.order(), name)
        self.assertEqual(keep.stands(), sorted(set(stood) - gone))
        self.assertEqual(keep.made(), made)

    def test_led_by_many_deeds(self):
        chance = random.Random(44)
        for case in many_cases():
            orders = [None] + [order for order in [shuffled_order(case, chance)] if width(case, order) <= 5]
            for order in orders:
                keep = Keep(case, order)
                for _ in range(12):
                    self.lead(keep, *random_deed(keep.case(), chance))
                    if chance.random() < 0.6 and ways(keep.case()) <= 20000:
                        made, stood = keep.made(), keep.stands()
                        self.assertEqual(keep.weight(), Keep(keep.case(), order).weight())
                        self.assertEqual(keep.weight(), peeled(keep.case(), keep.order())[0])
                        things = plain_things(case)
                        self.assertEqual((keep.made(), keep.stands()), (made + len(things) - len(stood), things))

    def test_what_stands_already_lets_none_go(self):
        for case in many_cases():
            keep = Keep(case)
            keep.weight()
            for one in case[2]:
                keep.see(*one)
            for number, share in enumerate(case[1][1]):
                keep.gap(number, share)
            self.assertEqual(keep.stands(), plain_things(case))
            keep.weight()
            self.assertEqual((keep.made(), keep.case()), (len(plain_things(case)), case))

    def test_led_there_and_back(self):
        for case in many_cases():
            keep = Keep(case)
            weight = keep.weight()
            for one in case[2]:
                keep.forget(one[0], one[1])
            self.assertEqual(keep.weight(), (1, 1))
            for one in case[2][::-1]:
                keep.see(*one)
            self.assertEqual((keep.weight(), keep.case()), (weight, case))

    def test_what_is_new_hangs_on_its_pair(self):
        for place in itertools.product(range(3), range(2)):
            keep = Keep(CASE)
            keep.weight()
            keep.see(*place, ((1, 1),))
            self.assertNotIn(("pair",) + place, keep.stands())
            self.assertTrue(keep.stands())

    def test_a_case_that_can_not_be(self):
        keep = Keep(case_of(TRIO, (HALVES,), seen=((0, 0, LOW), (2, 0, HIGH))))
        self.assertEqual(keep.weight(), (0, 1))
        self.assertEqual(keep.stands(), list(THINGS))
        keep.forget(0, 0)
        self.assertEqual(keep.weight(), (1, 4))

    def test_eight_seen_and_a_ninth(self):
        keep = Keep(FULL)
        before = told_by(Keep(FULL))
        self.assertEqual(self.assert_refused(NoCase, keep.see, 2, 2, LOW).part, "seen")
        self.assertEqual(told_by(keep), before)
        keep.see(0, 0, LOW)
        self.assertEqual(len(keep.case()[2]), 8)
        keep.forget(0, 0)
        keep.see(2, 2, LOW)
        self.assertEqual(keep.case()[2][-1], (2, 2, LOW))


class RefusalTest(Checks):
    def assert_unchanged(self, kind, deed, rows):
        for asked in (False, True):
            keep, same = Keep(CASE), Keep(CASE)
            if asked:
                keep.weight(), same.weight()
            for given in rows:
                error = self.assert_refused(kind, getattr(keep, deed), *given)
                self.check(error, deed, given)
                self.assertEqual((keep.case(), keep.order(), keep.made()), (same.case(), same.order(), same.made()))
                self.assertEqual(keep.stands(), same.stands())
            self.assertEqual(told_by(keep), told_by(same))

    def check(self, error, deed, given):
        if deed == "forget":
            self.assertEqual(repr(error.thing), repr(given))
        else:
            self.assertEqual(error.part, "seen" if deed == "see" else "line")

    def test_see(self):
        self.assert_unchanged(NoCase, "see", no_seen())

    def test_gap(self):
        self.assert_unchanged(NoCase, "gap", no_gaps())
        self.assertEqual(self.assert_refused(NoCase, Keep(case_of(TRIO, (HALVES,))).gap, 0, (1, 3)).part, "line")

    def test_forget(self):
        rows = [(0, 1), (1, 0), (2, 0), (3, 0), (-1, 0), (0, -1), (False, 0), (0, False), (2, True), ("0", 0), (0, "0")]
        rows += [([0], 0), (0, [0]), ((0,), 0), (None, None), ((0, 0), None), ((0, 0), LOW), ({}, []), (10 ** 99, 0)]
        for thing in whatever():
            rows += [(thing, thing)] if repr(thing) != "0" else []
            rows += [(thing, 0), (2, thing)] if not isinstance(thing, int) or isinstance(thing, bool) else []
        self.assert_unchanged(NoThing, "forget", rows)
        keep = Keep(CASE)
        keep.forget(0, 0)
        self.assertEqual(self.assert_refused(NoThing, keep.forget, 0, 0).thing, (0, 0))

    def test_what_was_asked_is_kept_as_it_was(self):
        asked = [[0]]
        error = self.assert_refused(NoThing, Keep(CASE).forget, asked, asked)
        asked[0].append(1)
        self.assertEqual(error.thing, ([[0]], [[0]]))


class SameTest(Checks):
    def test_same_case_and_order(self):
        for case in many_cases()[:10]:
            keep, other = Keep(case), Keep(case, good_order(case))
            self.assertTrue(keep == other)
            self.assertFalse(keep != other)
            keep.weight()
            self.assertTrue(keep == other and other == keep)
            self.assertEqual((other.made(), other.stands()), (0, []))

    def test_another_case_or_order(self):
        keep = Keep(CASE)
        things = tuple(plain_things(CASE))
        orders = (things[1:] + things[:1], things[::-1])
        self.assertNotIn(keep.order(), orders)
        others = [Keep(CASE, order) for order in orders] + [Keep((CASE[0], CASE[1], ())), Keep(FULL)]
        for other in others:
            self.assertTrue(keep != other)
            self.assertFalse(keep == other or other == keep)

    def test_led_to_the_same(self):
        keep, other = Keep(CASE), Keep(CASE)
        keep.see(1, 0, LOW)
        self.assertFalse(keep == other)
        keep.weight()
        other.weight()
        other.see(1, 0, HET)
        other.see(1, 0, LOW)
        self.assertTrue(keep == other)
        keep.gap(0, (1, 7))
        self.assertFalse(keep == other)
        keep.gap(0, (1, 10))
        keep.forget(1, 0)
        self.assertTrue(keep == Keep(CASE))
        self.assertFalse(keep == other)

    def test_nothing_else(self):
        keep = Keep(CASE)
        for other in whatever() + [CASE, keep.order(), (CASE, keep.order()), [keep], "Keep"]:
            self.assertIs(keep == other, False)
            self.assertIs(keep != other, True)
            self.assertIs(other == keep, False)


class OwnTest(Checks):
    def test_two_keeps_are_apart(self):
        keep, other = Keep(CASE), Keep(CASE)
        keep.see(1, 1, ((0, 1),))
        keep.gap(0, (1, 4))
        keep.weight()
        self.assertEqual((other.case(), other.made(), other.stands()), (CASE, 0, []))
        self.assertEqual(other.weight(), full_sum(CASE))

    def test_what_is_told_is_the_askers_own(self):
        keep = Keep(CASE)
        keep.weight()
        stands, case, order, made = keep.stands(), keep.case(), keep.order(), keep.made()
        kept = copy.deepcopy((stands, case, order, made))
        keep.see(0, 0, HIGH)
        keep.gap(0, (1, 4))
        self.assertEqual((stands, case, order, made), kept)
        stands.clear()
        keep.weight()
        self.assertEqual(keep.stands(), plain_things(CASE))
        keep.stands().append(1)
        self.assertEqual(keep.stands(), plain_things(CASE))

    def test_nothing_handed_in_is_changed(self):
        order = tuple(plain_things(CASE))
        before = repr((CASE, order))
        keep = Keep(CASE, order)
        keep.see(0, 0, HIGH)
        keep.forget(2, 1)
        keep.gap(0, (0, 1))
        keep.weight()
        self.assertEqual(repr((CASE, order)), before)

    def test_by_name(self):
        keep, other = Keep(order=tuple(plain_things(CASE)), case=CASE), Keep(CASE, tuple(plain_things(CASE)))
        keep.see(pairs=LOW, mark=0, member=1)
        other.see(1, 0, LOW)
        keep.gap(share=(1, 4), number=0)
        other.gap(0, (1, 4))
        keep.forget(mark=1, member=2)
        other.forget(2, 1)
        self.assertEqual(told_by(keep), told_by(other))
        self.assertEqual(keep.case()[2], ((0, 0, LOW + HET), (1, 0, LOW)))


if __name__ == "__main__":
    unittest.main()
