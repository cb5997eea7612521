"""Point 3: what is promised over the whole program."""

import itertools
import random
import unittest

from crossmarks.carrying import carries, thing_shares
from crossmarks.casetables import tables_of
from crossmarks.errors import NoWeight
from crossmarks.fitting import fitted, weights_by
from crossmarks.holding import held_weight, summed_over
from crossmarks.keep import Keep
from crossmarks.likely import likeliest, within
from crossmarks.lots import can_be, least_lot
from crossmarks.machine import run_by_peeling
from crossmarks.orders import good_order, width
from crossmarks.peeling import peeled
from crossmarks.reader import read_case, read_share
from crossmarks.refuting import against, lets_against
from crossmarks.shares import is_less, product, times, total
from crossmarks.states import full_sum, state_weight, states_of
from crossmarks.tables import held_at, joined, summed_out, whole
from crossmarks.texts import show_case, show_share
from crossmarks.walker import walked
from crossmarks.desk import Desk
from tests.keeping import shuffled_order
from tests.samples import bare, plain_things, plain_values, random_cases, ways, wide_cases
from tests.support import Checks
from tests.unfit import pressed_cases, unfit_cases


def many_cases():
    return random_cases(30, 1500, 101) + wide_cases(10, 800, 102) + pressed_cases(15, 103) + unfit_cases()


def held_in_tables(case, held):
    """The weight of the case held so, by its tables alone."""
    tables = tables_of(case)
    for thing, value in held:
        tables = [held_at(table, thing, value) if thing in table[0] else table for table in tables]
    for thing in good_order(case):
        if thing in [one for one, value in held]:
            continue
        having = [table for table in tables if thing in table[0]]
        together = having[0]
        for table in having[1:]:
            together = joined(together, table)
        tables = [table for table in tables if thing not in table[0]] + [summed_out(together, thing)]
    return product([whole(table) for table in tables])


def changed_keep(case):
    """A keep that came to a case from the one with nothing seen and other shares of gaps."""
    family, (marks, gaps), seen = case
    keep = Keep((family, (marks, ((1, 7),) * len(gaps)), ()))
    keep.weight()
    for number, share in enumerate(gaps):
        keep.gap(number, share)
        keep.weight()
    for one in seen[::-1]:
        keep.see(*one)
        keep.weight()
    return keep


class WholeTest(Checks):
    def weights(self, case, chance):
        """The weight of a case in all ways that tell it."""
        things = plain_things(case)
        found = {"full sum": full_sum(case), "states": total([weight for state, weight in states_of(case)])}
        found["state by state"] = total([state_weight(case, state) for state, weight in states_of(case)])
        found["good order"] = peeled(case, good_order(case))[0]
        for number, order in enumerate([tuple(things), tuple(things[::-1])] + [shuffled_order(case, chance)] * 2):
            if width(case, order) <= 6:
                found["order", number] = peeled(case, order)[0]
        one = chance.choice(things)
        found["held"] = total([held_weight(case, ((one, value),)) for value in plain_values(case, one)])
        found["over one"] = total([weight for held, weight in summed_over(case, (one,))])
        found["in tables"] = total([held_in_tables(case, ((one, value),)) for value in plain_values(case, one)])
        if len(things) > 1:
            two = tuple(sorted(chance.sample(things, 2)))
            found["over two"] = total([weight for held, weight in summed_over(case, two)])
        found["keep"] = Keep(case).weight()
        found["changed keep"] = changed_keep(case).weight()
        found["walker"], = walked(case, (("weight",),))
        found["machine"], = run_by_peeling(case, (("weight",),))
        for number, gap in enumerate(case[1][1]):
            found["gap", number], = weights_by(case, number, (gap,))
            found["fitted", number] = fitted(case, number, (gap,))[1]
        desk = Desk()
        desk.say("case\n" + show_case(case))
        found["desk"] = read_share(desk.say("weight")) if full_sum(case)[1] < 10 ** 12 else full_sum(case)
        found["read back"] = full_sum(read_case(show_case(case)))
        return found

    def test_one_weight(self):
        chance = random.Random(104)
        for case in many_cases():
            before = repr(case)
            found = self.weights(case, chance)
            self.assertEqual(set(found.values()), {full_sum(case)}, found)
            self.assertEqual(repr(case), before)

    def test_the_weight_is_nought_just_where_the_case_can_not_be(self):
        found = []
        for case in many_cases():
            fails = full_sum(case) == (0, 1)
            found.append(fails)
            self.assertEqual(states_of(case) == [], fails)
            self.assertEqual(can_be(case, tuple(range(len(case[2])))), not fails)
            self.assertEqual(Keep(case).weight() == (0, 1), fails)
            if ways(bare(case)) <= 5000:
                self.assertEqual(least_lot(case) is not None, fails)
                self.assertEqual(against(case) is not None, fails)
                self.assertEqual(walked(case, (("lot",),)), [least_lot(case)])
                self.assertEqual(run_by_peeling(case, (("lot",),)), [least_lot(case)])
            for asked in (likeliest, within, lambda one: carries(one, 0, 0)):
                if fails:
                    self.assert_refused(NoWeight, asked, case)
                else:
                    asked(case)
            self.assertEqual(walked(case, (("carries", 0, 0),)) == ["none"], fails)
        self.assertEqual(set(found), {True, False})

    def test_a_lot_that_can_not_be_is_shown(self):
        many = 0
        for case in unfit_cases() + pressed_cases(40, 105):
            paper = against(case)
            if paper is None:
                continue
            many += 1
            self.assertTrue(lets_against(case, paper))
            lot, tree, rows = paper
            self.assertFalse(can_be(case, lot))
            for size in range(len(lot)):
                for fewer in itertools.combinations(range(len(case[2])), size):
                    self.assertTrue(can_be(case, fewer))
                    self.assertIn(fewer, [row[0] for row in rows])
        self.assertGreater(many, 10)

    def test_what_members_carry_comes_to_one(self):
        for case in many_cases():
            if full_sum(case) == (0, 1):
                continue
            for thing in plain_things(case)[:6]:
                rows = thing_shares(case, thing)
                self.assertEqual(total([share for value, share in rows]), (1, 1))
                for value, share in rows:
                    self.assertEqual(times(share, full_sum(case)), held_weight(case, ((thing, value),)))
            for member in range(len(case[0])):
                rows = carries(case, member, 0)
                self.assertEqual(total([share for pair, share in rows]), (1, 1))
                self.assertEqual(run_by_peeling(case, (("carries", member, 0),)), [rows])

    def test_the_likeliest_is_as_likely_as_any(self):
        for case in many_cases():
            if full_sum(case) == (0, 1):
                continue
            rows = states_of(case)
            state, weight = likeliest(case)
            self.assertFalse([one for one, other in rows if is_less(weight, other)])
            near = within(case, share=(1, 3))
            self.assertEqual(sorted(near), [row for row in rows if not is_less(row[1], times((1, 3), weight))])
            self.assertEqual(near[0], (state, weight))

    def test_what_is_written_is_read_back(self):
        for case in many_cases():
            self.assertEqual(read_case(show_case(case)), case)
            for share in case[1][1] + sum(case[1][0], ()):
                self.assertEqual(read_share(show_share(share)), share)


if __name__ == "__main__":
    unittest.main()
