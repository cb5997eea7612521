"""Point 24: the walker and the machine, and what point 3 says of them."""

import random
import unittest

from crossmarks.cases import case_of
from crossmarks.lots import least_lot
from crossmarks.machine import run_by_peeling
from crossmarks.programs import is_program
from crossmarks.states import full_sum
from crossmarks.walker import walked
from tests.keeping import changed
from tests.running import plain_run, random_program
from tests.samples import HALVES, THIRDS, THREE, random_cases, wide_cases
from tests.support import Checks
from tests.unfit import SPLIT, pressed_cases, unfit_cases

LOW, HET, HIGH = ((0, 0),), ((0, 1),), ((1, 1),)
TRIO = (None, None, (0, 1))
BOTH = (walked, run_by_peeling)
CASE = case_of(TRIO, (THIRDS, HALVES), gaps=((1, 10),), seen=((0, 0, LOW + HET), (2, 0, HET)))


def many_cases():
    return random_cases(40, 800, 81) + wide_cases(12, 500, 82) + pressed_cases(20, 83)


class RunningTest(Checks):
    def assert_told(self, case, program, wanted):
        self.assertTrue(is_program(program))
        for run in BOTH:
            before = repr((case, program))
            self.assertEqual(repr(run(case, program)), repr(wanted))
            self.assertEqual(repr((case, program)), before)

    def test_by_hand(self):
        case = case_of(TRIO, (THIRDS,), seen=((2, 0, HET),))
        self.assert_told(case, (), [])
        self.assert_told(case, (("weight",),), [(4, 9)])
        self.assert_told(case, (("carries", 0, 0),), [[((0, 0), (1, 6)), ((0, 1), (1, 2)), ((1, 1), (1, 3))]])
        self.assert_told(case, (("carries", 2, 0),), [[((0, 1), (1, 1))]])
        self.assert_told(case, (("lot",),), [None])
        self.assert_told(case, (("see", 0, 0, LOW), ("see", 2, 0, HIGH), ("lot",), ("weight",), ("carries", 1, 0)), [
            (0, 1), (0, 1), "none"])
        self.assert_told(case, (("forget", 2, 0), ("weight",), ("forget", 2, 0), ("weight",)), [(1, 1), "no", (1, 1)])
        self.assert_told(case, (("see", 2, 0, LOW), ("weight",), ("see", 2, 0, HIGH), ("weight",)), [(1, 9), (4, 9)])

    def test_gaps_by_hand(self):
        seen = [(0, 0, HET), (0, 1, HET), (1, 0, LOW), (1, 1, LOW), (2, 0, LOW), (2, 1, LOW)]
        family = TRIO + ((0, 1),)
        case = case_of(family, (HALVES, HALVES), gaps=((1, 10),), seen=seen + [(3, 0, LOW), (3, 1, HET)])
        self.assert_told(case, (
            ("weight",), ("gap", 0, (0, 1)), ("weight",), ("gap", 0, (1, 2)), ("weight",), ("gap", 1, (1, 3)),
            ("gap", 0, (2, 3)), ("weight",)), [(9, 25600), (0, 1), (1, 1024), "no", "no", (1, 1024)])

    def test_lots_by_hand(self):
        self.assert_told(SPLIT, (("lot",), ("forget", 4, 0), ("lot",), ("see", 2, 0, ((0, 1),)), ("lot",)), [
            least_lot(SPLIT), None, None])
        for case in unfit_cases():
            self.assert_told(case, (("lot",), ("weight",), ("carries", 0, 0)), [least_lot(case), (0, 1), "none"])

    def test_lines_that_can_not_be_done(self):
        for line in (
                ("see", 3, 0, LOW), ("see", 9, 0, LOW), ("see", 0, 2, LOW), ("see", 0, 9, LOW), ("see", 0, 0, ((1, 0),)),
                ("see", 0, 0, HET + LOW), ("see", 0, 0, LOW + LOW), ("see", 0, 0, ((0, 2),)), ("see", 1, 1, ((9, 9),)),
                ("see", 0, 0, LOW + ((2, 2),)), ("forget", 0, 1), ("forget", 1, 0), ("forget", 3, 0), ("forget", 9, 9),
                ("gap", 1, (1, 3)), ("gap", 9, (1, 3)), ("gap", 0, (2, 3)), ("gap", 0, (1, 1)), ("gap", 0, (-1, 3)),
                ("gap", 0, (5001, 10000)), ("carries", 3, 0), ("carries", 0, 2), ("carries", 9, 9)):
            self.assert_told(CASE, (line,), ["no"])
            self.assert_told(CASE, (("weight",), line, ("weight",), ("carries", 2, 1)), [
                full_sum(CASE), "no", full_sum(CASE)] + walked(CASE, (("carries", 2, 1),)))

    def test_carries_of_none_where_the_case_can_not_be(self):
        case = unfit_cases()[0]
        self.assert_told(case, (("carries", 0, 0), ("carries", 3, 0), ("carries", 0, 1)), ["none", "no", "no"])

    def test_carries_of_one_who_is_no_kin(self):
        # The stranger's shares hang on nobody, but nobody carries anything where the case can't be.
        family = TRIO + (None,)
        case = case_of(family, (THIRDS,), seen=((0, 0, LOW), (2, 0, HIGH)))
        self.assert_told(case, (("carries", 3, 0), ("forget", 0, 0), ("carries", 3, 0)), [
            "none", [((0, 0), (1, 9)), ((0, 1), (4, 9)), ((1, 1), (4, 9))]])

    def test_a_ninth_seen(self):
        places = [(member, mark) for member in range(3) for mark in range(3)]
        case = case_of((None,) * 3, (HALVES,) * 3, gaps=((0, 1), (1, 3)), seen=[place + (LOW,) for place in places[:8]])
        self.assert_told(case, (("see", 2, 2, LOW), ("weight",)), ["no", (1, 4 ** 8)])
        self.assert_told(case, (("forget", 0, 0), ("see", 2, 2, LOW), ("see", 0, 0, LOW), ("weight",)), ["no", (1, 4 ** 8)])
        self.assert_told(case, (("see", 0, 0, HIGH), ("weight",)), [(1, 4 ** 8)])

    def test_by_the_words(self):
        chance = random.Random(84)
        found = []
        for case in many_cases():
            program = random_program(case, chance, 800)
            wanted = plain_run(case, program)
            found += wanted
            self.assert_told(case, program, wanted)
        self.assertTrue({"no", "none", None} <= {one for one in found if not isinstance(one, list)})
        self.assertTrue([one for one in found if isinstance(one, list)])

    def test_lots_by_the_words(self):
        found = []
        for case in unfit_cases() + [SPLIT] + pressed_cases(60, 89):
            wanted = plain_run(case, (("lot",),))
            found += wanted
            self.assert_told(case, (("lot",),), wanted)
        self.assertTrue({0, 2, 3} <= {0 if lot is None else len(lot) for lot in found})

    def test_both_tell_the_same(self):
        chance = random.Random(85)
        for case in random_cases(25, 5000, 86) + wide_cases(25, 1500, 87):
            program = random_program(case, chance)
            self.assertEqual(walked(case, program), run_by_peeling(case, program))

    def test_one_program_behind_the_other(self):
        chance = random.Random(88)
        for case in many_cases()[::2]:
            program = random_program(case, chance, 800)
            cut = chance.randrange(0, len(program) + 1)
            behind = case
            for line in program[:cut]:
                if line[0] in ("see", "forget", "gap"):
                    behind = changed(behind, line[0], line[1:]) or behind
            for run in BOTH:
                self.assertEqual(run(case, program[:cut]) + run(behind, program[cut:]), run(case, program))

    def test_lists_are_the_askers_own(self):
        program = (("carries", 0, 0), ("carries", 0, 0), ("weight",))
        for run in BOTH:
            told = run(CASE, program)
            kept = repr(told)
            self.assertEqual(told[0], told[1])
            told[0].clear()
            self.assertNotEqual(told[0], told[1])
            told.clear()
            self.assertEqual(repr(run(CASE, program)), kept)

    def test_by_name(self):
        for run in BOTH:
            self.assertEqual(run(program=(("weight",),), case=CASE), [full_sum(CASE)])


if __name__ == "__main__":
    unittest.main()
