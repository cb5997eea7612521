"""Point 7: the weights of states and of cases, and what point 3 says of the full sum."""

import itertools
import unittest
from fractions import Fraction

from crossmarks.cases import case_of
from crossmarks.shares import ONE, is_share, product, total
from crossmarks.states import full_sum, state_weight, states_of
from tests.samples import (
    FAMILIES, HALVES, THIRDS, THREE, how_many_states, plain_states, plain_things, plain_weight, random_cases,
    sorted_pairs, told, ways)
from tests.support import Checks

TRIO = (None, None, (0, 1))
TWO_CHILDREN = (None, None, (0, 1), (0, 1))
GRANDCHILD = (None, None, (0, 1), None, (2, 3))
HET, LOW, HIGH = ((0, 1),), ((0, 0),), ((1, 1),)


def small_cases(many=60):
    """Cases whose states can all be gone through."""
    found = [case for case in random_cases(2000, 5000, 5) if how_many_states(case) <= 5000]
    return found[:many]


def weighed_cases(many, most_ways=5000, seed=9):
    return random_cases(many, most_ways, seed)


def seeing(case, member, mark, pairs):
    """The case with something seen of a member and mark, in place of what was."""
    others = [one for one in case[2] if one[:2] != (member, mark)]
    return (case[0], case[1], tuple(sorted(others + [(member, mark, pairs)])))


def forgetting(case, member, mark):
    return (case[0], case[1], tuple([one for one in case[2] if one[:2] != (member, mark)]))


class StateWeightTest(Checks):
    def test_a_founder_by_hand(self):
        case = case_of((None,), (THIRDS, THREE), gaps=((1, 10),), seen=((0, 1, ((0, 1), (2, 2))),))
        self.assertEqual(state_weight(case, ((0, 1), (0, 1))), told(Fraction(1, 3) * Fraction(2, 3) / 6))
        self.assertEqual(state_weight(case, ((1, 1), (1, 0))), told(Fraction(4, 9) / 6))
        self.assertEqual(state_weight(case, ((1, 1), (2, 2))), told(Fraction(4, 9) / 36))
        self.assertEqual(state_weight(case, ((1, 1), (0, 2))), (0, 1))
        self.assertEqual(state_weight(case, ((1, 1), (1, 2))), (0, 1))

    def test_a_child_by_hand(self):
        case = case_of(TRIO, (THIRDS,))
        self.assertEqual(state_weight(case, ((0, 1), (1, 0), (1, 1), 1, 0)), (1, 81))
        self.assertEqual(state_weight(case, ((0, 1), (1, 0), (0, 0), 0, 1)), (1, 81))
        self.assertEqual(state_weight(case, ((0, 1), (1, 1), (0, 1), 0, 0)), (2, 81))
        self.assertEqual(state_weight(case, ((0, 1), (1, 1), (0, 1), 0, 1)), (2, 81))

    def test_a_kind_that_did_not_come_down(self):
        case = case_of(TRIO, (THIRDS,))
        for state in (((0, 1), (1, 0), (1, 1), 0, 0), ((0, 1), (1, 0), (1, 1), 1, 1), ((0, 0), (0, 0), (0, 1), 0, 0),
                      ((0, 0), (1, 1), (1, 0), 0, 0)):
            self.assertEqual(state_weight(case, state), (0, 1))

    def test_elders_the_other_way_about(self):
        case = case_of((None, None, (1, 0)), (THIRDS,))
        self.assertEqual(state_weight(case, ((0, 0), (1, 1), (1, 0), 0, 0)), (1, 81))
        self.assertEqual(state_weight(case, ((0, 0), (1, 1), (0, 1), 0, 0)), (0, 1))

    def test_a_seen_pair_that_may_not_be(self):
        case = case_of(TRIO, (HALVES,), seen=((2, 0, HET),))
        self.assertEqual(state_weight(case, ((0, 0), (1, 1), (0, 1), 0, 0)), (1, 64))
        self.assertEqual(state_weight(case, ((1, 1), (0, 0), (1, 0), 0, 0)), (1, 64))
        self.assertEqual(state_weight(case, ((0, 0), (0, 0), (0, 0), 0, 0)), (0, 1))

    def test_gaps_by_hand(self):
        kinds = ((0, 0),) * 6
        case = case_of(TRIO, (HALVES, HALVES), gaps=((1, 10),))
        base = Fraction(1, 256) / 4
        self.assertEqual(state_weight(case, kinds + (0, 0, 0, 0)), told(base * Fraction(81, 100)))
        self.assertEqual(state_weight(case, kinds + (0, 1, 0, 0)), told(base * Fraction(9, 100)))
        self.assertEqual(state_weight(case, kinds + (1, 1, 1, 0)), told(base * Fraction(9, 100)))
        self.assertEqual(state_weight(case, kinds + (1, 0, 0, 1)), told(base * Fraction(1, 100)))

    def test_a_gap_of_nought(self):
        kinds = ((0, 0),) * 6
        case = case_of(TRIO, (HALVES, HALVES), gaps=((0, 1),))
        self.assertEqual(state_weight(case, kinds + (0, 0, 1, 1)), (1, 1024))
        self.assertEqual(state_weight(case, kinds + (0, 1, 1, 1)), (0, 1))
        self.assertEqual(state_weight(case, kinds + (0, 0, 1, 0)), (0, 1))

    def test_each_turn_along_three_marks(self):
        kinds = ((0, 0),) * 9
        case = case_of(TRIO, (HALVES,) * 3, gaps=((1, 10), (1, 3)))
        shares = {(False, False): (9, 15), (False, True): (9, 30), (True, False): (1, 15), (True, True): (1, 30)}
        for turns in itertools.product((0, 1), repeat=6):
            wanted = Fraction(1, 4 ** 6 * 4)
            for a, b, c in (turns[:3], turns[3:]):
                wanted *= Fraction(*shares[a != b, b != c])
            self.assertEqual(state_weight(case, kinds + turns), told(wanted))

    def test_each_state(self):
        for case in small_cases():
            before = repr(case)
            for state in plain_states(case):
                weight = state_weight(case, state)
                self.assertEqual(weight, told(plain_weight(case, state)))
            self.assertEqual(repr(case), before)

    def test_by_name(self):
        case = case_of((None,), (HALVES,))
        self.assertEqual(state_weight(state=((0, 1),), case=case), (1, 4))


class StatesTest(Checks):
    def test_all_states_rising(self):
        for case in small_cases():
            wanted = [(state, told(plain_weight(case, state))) for state in plain_states(case)]
            wanted = [(state, weight) for state, weight in wanted if weight != (0, 1)]
            self.assertEqual(states_of(case), wanted)

    def test_all_turns_along_two_and_three_marks(self):
        for gaps in (((0, 1),), ((1, 2),), ((1, 10),), ((0, 1), (0, 1)), ((0, 1), (1, 3)), ((1, 10), (0, 1)),
                     ((1, 10), (1, 3)), ((1, 2), (1, 5))):
            marks = len(gaps) + 1
            seen = [(member, mark, LOW) for member in (0, 1) for mark in range(marks)]
            case = case_of(TRIO, (THIRDS,) * marks, gaps=gaps, seen=seen)
            states = [((0, 0),) * 3 * marks + turns for turns in itertools.product((0, 1), repeat=2 * marks)]
            wanted = [(state, told(plain_weight(case, state))) for state in states]
            self.assertEqual(states_of(case), [(state, weight) for state, weight in wanted if weight != (0, 1)])
            self.assertEqual(full_sum(case), (1, 9 ** (2 * marks)))

    def test_larger_cases(self):
        for case in weighed_cases(25):
            rows = states_of(case)
            states = [state for state, weight in rows]
            self.assertEqual(states, sorted(set(states)))
            for state, weight in rows[::7]:
                self.assertEqual(len(state), len(plain_things(case)))
                self.assertEqual(weight, told(plain_weight(case, state)))
                self.assertEqual(weight, state_weight(case, state))
                self.assertNotEqual(weight, (0, 1))

    def test_a_case_that_can_not_be(self):
        case = case_of(TRIO, (HALVES,), seen=((0, 0, LOW), (1, 0, LOW), (2, 0, HET)))
        self.assertEqual(states_of(case), [])
        self.assertEqual(full_sum(case), (0, 1))

    def test_the_list_is_the_askers_own(self):
        case = case_of((None,), (HALVES,))
        rows = states_of(case)
        self.assertEqual(rows, [(((0, 0),), (1, 4)), (((0, 1),), (1, 4)), (((1, 0),), (1, 4)), (((1, 1),), (1, 4))])
        rows.pop()
        rows[0] = None
        self.assertEqual(len(states_of(case)), 4)
        self.assertEqual(states_of(case)[0], (((0, 0),), (1, 4)))

    def test_by_name(self):
        self.assertEqual(len(states_of(case=case_of((None,), (THREE,)))), 9)


class FullSumTest(Checks):
    def test_one_where_nothing_is_seen(self):
        for case in weighed_cases(60):
            bare = (case[0], case[1], ())
            if ways(bare) <= 5000:
                self.assertEqual(full_sum(bare), ONE)
        for family in FAMILIES:
            self.assertEqual(full_sum(case_of(family, (HALVES,))), ONE)
        self.assertEqual(full_sum(case_of(TRIO, (HALVES, THIRDS), gaps=((1, 10),))), ONE)
        self.assertEqual(full_sum(case_of((None, None), (HALVES,) * 3, gaps=((1, 10), (0, 1)))), ONE)

    def test_sum_of_the_weights(self):
        for case in weighed_cases(60):
            before = repr(case)
            weight = full_sum(case)
            self.assertEqual(weight, total([share for state, share in states_of(case)]))
            self.assertIs(is_share(weight), True)
            self.assertEqual(repr(case), before)

    def test_sum_by_the_words(self):
        for case in small_cases():
            self.assertEqual(full_sum(case), told(sum([plain_weight(case, state) for state in plain_states(case)])))

    def test_small_weights_by_hand(self):
        self.assertEqual(full_sum(case_of((None,), (THIRDS,), seen=((0, 0, HET),))), (4, 9))
        self.assertEqual(full_sum(case_of((None,), (THIRDS,), seen=((0, 0, LOW + HIGH),))), (5, 9))
        for pairs, weight in ((LOW, (1, 9)), (HET, (4, 9)), (HIGH, (4, 9)), (LOW + HET, (5, 9))):
            self.assertEqual(full_sum(case_of(TRIO, (THIRDS,), seen=((2, 0, pairs),))), weight)
        case = case_of(TRIO, (HALVES,), seen=((0, 0, HET), (1, 0, HET), (2, 0, LOW)))
        self.assertEqual(full_sum(case), (1, 16))

    def test_two_children_over_a_gap(self):
        seen = [(0, 0, HET), (0, 1, HET), (1, 0, LOW), (1, 1, LOW), (2, 0, LOW), (2, 1, LOW)]
        for gap in ((0, 1), (1, 2), (1, 10), (123, 4567)):
            share = Fraction(*gap)
            one = case_of(TRIO, (HALVES, HALVES), gaps=(gap,), seen=seen)
            self.assertEqual(full_sum(one), (1, 256))
            alike = case_of(TWO_CHILDREN, (HALVES, HALVES), gaps=(gap,), seen=seen + [(3, 0, LOW), (3, 1, LOW)])
            self.assertEqual(full_sum(alike), told((share ** 2 + (1 - share) ** 2) / 512))
            unlike = case_of(TWO_CHILDREN, (HALVES, HALVES), gaps=(gap,), seen=seen + [(3, 0, LOW), (3, 1, HET)])
            self.assertEqual(full_sum(unlike), told(2 * share * (1 - share) / 512))

    def test_a_childs_child(self):
        case = case_of(GRANDCHILD, (THIRDS,), seen=((0, 0, LOW), (1, 0, HIGH), (3, 0, HIGH), (4, 0, HET)))
        self.assertEqual(full_sum(case), told(Fraction(1, 9) * Fraction(4, 9) * Fraction(4, 9) / 2))
        case = case_of(GRANDCHILD, (THIRDS,), seen=((0, 0, LOW), (1, 0, LOW), (4, 0, HIGH)))
        self.assertEqual(full_sum(case), (0, 1))

    def test_three_marks(self):
        seen = [(0, mark, HET) for mark in range(3)] + [(1, mark, LOW) for mark in range(3)]
        low = [(2, mark, LOW) for mark in range(3)]
        for gaps in (((0, 1), (0, 1)), ((1, 5), (1, 3)), ((1, 2), (0, 1))):
            case = case_of(TRIO, (HALVES,) * 3, gaps=gaps, seen=seen + low[:2])
            self.assertEqual(full_sum(case), (1, 8 * 64 * 4))
            case = case_of(TRIO, (HALVES,) * 3, gaps=gaps, seen=seen[:5] + low)
            self.assertEqual(full_sum(case), (1, 8 * 16 * 2 * 8))

    def test_single_pairs_come_to_none_seen(self):
        for case in weighed_cases(25, 1500):
            for member, mark in itertools.product(range(len(case[0])), range(len(case[1][0]))):
                bare = forgetting(case, member, mark)
                if len(bare[2]) == 8 or ways(bare) > 5000:
                    continue
                pairs = sorted_pairs(len(case[1][0][mark]))
                parts = [full_sum(seeing(case, member, mark, (pair,))) for pair in pairs]
                self.assertEqual(total(parts), full_sum(bare))

    def test_gaps_of_a_half_part_the_marks(self):
        for case in weighed_cases(40):
            family, (marks, gaps), seen = case
            halved = (family, (marks, ((1, 2),) * len(gaps)), seen)
            alone = []
            for number, mark in enumerate(marks):
                own = [(member, 0, pairs) for member, place, pairs in seen if place == number]
                alone.append(full_sum(case_of(family, (mark,), seen=own)))
            self.assertEqual(full_sum(halved), product(alone))

    def test_kinds_called_otherwise(self):
        for case in weighed_cases(40):
            family, (marks, gaps), seen = case
            others = tuple([mark[::-1] for mark in marks])
            rows = []
            for member, mark, pairs in seen:
                last = len(marks[mark]) - 1
                rows.append((member, mark, tuple(sorted([(last - y, last - x) for x, y in pairs]))))
            self.assertEqual(full_sum((family, (others, gaps), tuple(rows))), full_sum(case))

    def test_marks_in_the_other_order(self):
        for case in weighed_cases(40):
            family, (marks, gaps), seen = case
            rows = tuple(sorted([(member, len(marks) - 1 - mark, pairs) for member, mark, pairs in seen]))
            self.assertEqual(full_sum((family, (marks[::-1], gaps[::-1]), rows)), full_sum(case))

    def test_elders_exchanged(self):
        for case in weighed_cases(40):
            family = tuple([None if elders is None else elders[::-1] for elders in case[0]])
            self.assertEqual(full_sum((family, case[1], case[2])), full_sum(case))

    def test_by_name(self):
        self.assertEqual(full_sum(case=case_of((None,), (THREE,))), ONE)


if __name__ == "__main__":
    unittest.main()
