"""Point 6: the things of a case, and their values."""

import unittest

from crossmarks.cases import case_of
from crossmarks.errors import CrossError, NoThing
from crossmarks.things import things_of, values_of
from tests.samples import FAMILIES, HALVES, THREE, plain_things, plain_values, random_cases
from tests.support import Checks, nested, of_other_kinds, whatever

CASE = case_of((None, None, (0, 1)), (HALVES, THREE), gaps=((1, 10),), seen=((2, 0, ((0, 0),)),))


def some_cases():
    found = random_cases(60, 10 ** 9, 3)
    for family in FAMILIES:
        found += [case_of(family, (HALVES,)), case_of(family, (HALVES, THREE, HALVES), gaps=((0, 1), (1, 2)))]
    return found


class ThingsTest(Checks):
    def test_by_hand(self):
        self.assertEqual(things_of(case_of((None,), (HALVES,))), [("pair", 0, 0)])
        self.assertEqual(things_of(CASE), [
            ("pair", 0, 0), ("pair", 0, 1), ("pair", 1, 0), ("pair", 1, 1), ("pair", 2, 0), ("pair", 2, 1),
            ("turn", 2, 0, 0), ("turn", 2, 0, 1), ("turn", 2, 1, 0), ("turn", 2, 1, 1),
        ])

    def test_all_rising(self):
        for case in some_cases():
            before = repr(case)
            things = things_of(case)
            self.assertEqual(things, plain_things(case))
            self.assertEqual(things, sorted(set(things)))
            self.assertEqual(repr(case), before)

    def test_the_list_is_the_askers_own(self):
        things = things_of(CASE)
        things.clear()
        self.assertEqual(things_of(CASE), plain_things(CASE))

    def test_by_name(self):
        self.assertEqual(things_of(case=CASE), plain_things(CASE))


class ValuesTest(Checks):
    def assert_none(self, case, thing):
        before = repr(thing)
        error = self.assert_refused(NoThing, values_of, case, thing)
        self.assertIsInstance(error, KeyError)
        self.assertNotIsInstance(error, CrossError)
        self.assertEqual(repr(error.thing), before)

    def test_by_hand(self):
        self.assertEqual(values_of(CASE, ("pair", 2, 0)), [(0, 0), (0, 1), (1, 0), (1, 1)])
        self.assertEqual(values_of(CASE, ("pair", 0, 1)), [
            (0, 0), (0, 1), (0, 2), (1, 0), (1, 1), (1, 2), (2, 0), (2, 1), (2, 2)])
        self.assertEqual(values_of(CASE, ("turn", 2, 1, 1)), [0, 1])

    def test_each_thing(self):
        for case in some_cases():
            for thing in plain_things(case):
                values = values_of(case, thing)
                self.assertEqual(values, plain_values(case, thing))
                self.assertEqual(values, sorted(set(values)))

    def test_the_list_is_the_askers_own(self):
        for thing in plain_things(CASE):
            values_of(CASE, thing).append("a")
            self.assertEqual(values_of(CASE, thing), plain_values(CASE, thing))

    def test_by_name(self):
        self.assertEqual(values_of(thing=("turn", 2, 0, 0), case=CASE), [0, 1])

    def test_each_number_beyond(self):
        for case in some_cases()[::4]:
            things = plain_things(case)
            for member in range(-2, 7):
                for mark in range(-2, 5):
                    wanted = [("pair", member, mark)] + [("turn", member, side, mark) for side in range(-1, 3)]
                    for thing in wanted:
                        if thing in things:
                            values_of(case, thing)
                        else:
                            self.assert_none(case, thing)

    def test_wrong_forms(self):
        for thing in (
                ("pairs", 0, 0), ("Pair", 0, 0), ("turn", 0, 0), ("turn", 2, 0), ("pair", 2, 0, 0), ("pair", 0),
                ("pair", 0, 0, 0), ("turn", 2, 0, 0, 0), ("turn", 2), ("pair",), ("turn",), (0, 0), ("", 0, 0),
                ("turn", 0, 0, 0), ("turn", 1, 1, 1), (0, 0, "pair"), ("pair", (0, 0)), (("pair", 0, 0),),
                ("pair", 10 ** 99, 0), ("pair", 0, -(10 ** 99)), ("turn", 2, 10 ** 99, 0), (b"pair", 0, 0)):
            self.assert_none(CASE, thing)

    def test_truths_for_numbers(self):
        for thing in (("pair", False, 0), ("pair", True, 0), ("pair", 0, False), ("pair", 0, True),
                      ("turn", 2, False, 0), ("turn", 2, True, 0), ("turn", 2, 0, False), ("turn", 2, 1, True),
                      ("turn", True, 0, 0), (True, 0, 0)):
            self.assert_none(CASE, thing)

    def test_whatever(self):
        for thing in whatever():
            if thing not in (("pair", 0, 0),):
                self.assert_none(CASE, thing)
        for thing in plain_things(CASE):
            for other in of_other_kinds(thing):
                self.assert_none(CASE, other)
        for thing in ("pair 0 0", ["pair", 0, 0], ("pair", "0", 0), ("pair", None, 0), ("pair", 0, []), ("pair", {}, 0),
                      (["pair"], 0, 0), ("turn", 2, "0", 0), ("turn", 2, None, 0), ("pair", 0, nested(tuple, 29)),
                      (nested(list, 29), 0, 0), (nested(dict, 29), 0, 0, 0), (None, 0, 0), ({}, 0, 0, 0)):
            self.assert_none(CASE, thing)

    def test_what_was_asked_is_kept_as_it_was(self):
        inner = [1, {"a": [2]}]
        asked = ["pair", inner, ({0: inner},)]
        error = self.assert_refused(NoThing, values_of, CASE, asked)
        asked.append(3)
        inner[1]["a"].append(4)
        inner.append(5)
        self.assertEqual(error.thing, ["pair", [1, {"a": [2]}], ({0: [1, {"a": [2]}]},)])


if __name__ == "__main__":
    unittest.main()
