"""Point 14: papers, and what point 3 says of what can't be."""

import copy
import itertools
import random
import unittest

from crossmarks.cases import case_of
from crossmarks.casetables import tables_of
from crossmarks.lots import least_lot
from crossmarks.refuting import against, lets_against
from crossmarks.states import full_sum, states_of
from tests.samples import (
    HALVES, THIRDS, THREE, bare, plain_things, plain_values, plain_weight, random_cases, ways)
from tests.support import Checks, nested, of_other_kinds, places, at, put, whatever
from tests.unfit import SPLIT, alone, lots_by_size, pressed_cases, unfit_cases

LOW, HET, HIGH = ((0, 0),), ((0, 1),), ((1, 1),)
TRIO = (None, None, (0, 1))
FIRST = case_of(TRIO, (HALVES,), seen=((0, 0, LOW), (2, 0, HIGH)))


def lacks(tables, number, held):
    things, rows = tables[number]
    if not all([thing in held for thing in things]):
        return False
    return tuple([held[thing] for thing in things]) not in dict(rows)


def shows(case, tables, tree, held):
    """Whether a tree of the right kinds shows what point 14 says."""
    if isinstance(tree, int):
        return 0 <= tree < len(tables) and lacks(tables, tree, held)
    thing, branches = tree
    if thing not in plain_things(case) or thing in held:
        return False
    if [value for value, under in branches] != plain_values(case, thing):
        return False
    return all([shows(case, tables, under, {**held, thing: value}) for value, under in branches])


def plain_lets(case, paper):
    """Whether a paper of the right kinds is one, by the words of point 14."""
    lot, tree, rows = paper
    if list(lot) != sorted(set(lot)) or not set(lot) <= set(range(len(case[2]))):
        return False
    if full_sum(alone(case, lot)) != (0, 1) or isinstance(tree, int):
        return False
    fewer = [one for one in lots_by_size(len(case[2])) if len(one) < len(lot)]
    if [one for one, state in rows] != fewer:
        return False
    for one, state in rows:
        fits = len(state) == len(plain_things(case)) and all([
            value in plain_values(case, thing) for thing, value in zip(plain_things(case), state)])
        if not fits or not plain_weight(alone(case, one), state):
            return False
    part = alone(case, lot)
    return shows(part, tables_of(part), tree, {})


def another_tree(case, tables, chance, held, left):
    """A tree that asks the things in the order of left, and stops as chance has it."""
    numbers = [number for number in range(len(tables)) if lacks(tables, number, held)]
    if numbers and (not left or chance.random() < 0.9):
        return chance.choice(numbers)
    thing = left[0]
    return (thing, [
        (value, another_tree(case, tables, chance, {**held, thing: value}, left[1:]))
        for value in plain_values(case, thing)])


def another_paper(case, chance, lot):
    """A paper of a told lot, of another tree and other states."""
    part = alone(case, lot)
    # The pairs of members seen first, so that trees stay small.
    seen = [("pair", member, mark) for member, mark, pairs in part[2]]
    others = [thing for thing in plain_things(case) if thing not in seen]
    chance.shuffle(seen)
    chance.shuffle(others)
    tree = another_tree(part, tables_of(part), chance, {}, seen + others)
    fewer = [one for one in lots_by_size(len(case[2])) if len(one) < len(lot)]
    return (lot, tree, [(one, chance.choice(states_of(alone(case, one)))[0]) for one in fewer])


def trees_in(tree, path):
    """The ways to all trees of a tree, itself first, numbers too."""
    found = [path]
    if not isinstance(tree, int):
        for number, (value, under) in enumerate(tree[1]):
            found += trees_in(under, path + (1, number, 1))
    return found


def lists_of(thing):
    """All lists in a thing."""
    found = [thing] if isinstance(thing, list) else []
    if isinstance(thing, (list, tuple)):
        for part in thing:
            found += lists_of(part)
    return found


def changed(case, paper):
    """The paper with places otherwise, but of the right kinds."""
    lot, tree, rows = paper
    found = [(other, tree, rows) for other in lots_by_size(len(case[2])) if other != lot]
    found += [(lot[::-1], tree, rows), (lot + lot[-1:], tree, rows), (lot + (len(case[2]),), tree, rows)]
    found += [((-1,) + lot[1:], tree, rows), (lot[:-1] + (10 ** 99,), tree, rows)]
    found += [(lot, under, rows) for under in [at(paper, path) for path in trees_in(tree, (1,))][1:]]
    found += [(lot, tree, rows[1:]), (lot, tree, rows[:-1]), (lot, tree, rows + rows[-1:]), (lot, tree, [])]
    found += [(lot, tree, rows[::-1]), (lot, tree, rows[:1] + rows[1:][::-1]), (lot, tree, rows[1:] + rows[:1])]
    found += [(lot, tree, rows + [(lot, rows[0][1])]), (lot, tree, rows[:1] * len(rows))]
    for path in trees_in(tree, (1,)):
        under = at(paper, path)
        if isinstance(under, int):
            found += [put(paper, path, number) for number in range(-2, len(tables_of(case)) + 3) if number != under]
            found.append(put(paper, path, 10 ** 99))
            continue
        thing, branches = under
        found += [put(paper, path, (other, branches)) for other in plain_things(case) if other != thing]
        for other in (branches[1:], branches[:-1], branches + branches[-1:], branches[::-1], [], branches[:1] * 2,
                      branches[1:] + branches[:1]):
            found.append(put(paper, path + (1,), other))
        # The same thing asked once more below itself.
        found.append(put(paper, path + (1, 0, 1), under))
    for number, (one, state) in enumerate(rows):
        for place, value in enumerate(state):
            for other in plain_values(case, plain_things(case)[place]) + [2, -1, (3, 3), (-1, 0), (0, 0), (0,)]:
                if other != value:
                    found.append(put(paper, (2, number, 1, place), other))
        found += [put(paper, (2, number, 1), state[:-1]), put(paper, (2, number, 1), state + (0,))]
        found += [put(paper, (2, number, 1), other) for other in [row[1] for row in rows]]
        found += [put(paper, (2, number, 0), other) for other in [row[0] for row in rows]]
    return found


class AgainstTest(Checks):
    def test_by_hand(self):
        lot, tree, rows = against(FIRST)
        self.assertEqual(lot, (0, 1))
        self.assertEqual([one for one, state in rows], [(), (0,), (1,)])
        self.assertIs(plain_lets(FIRST, (lot, tree, rows)), True)

    def test_papers(self):
        cases = unfit_cases() + [SPLIT] + [case for case in pressed_cases(120, 51) if full_sum(case) == (0, 1)]
        sizes = set()
        for case in cases:
            before = repr(case)
            paper = against(case)
            self.assertIsInstance(paper, tuple)
            self.assertEqual(paper[0], least_lot(case))
            self.assertIs(plain_lets(case, paper), True)
            self.assertIs(lets_against(case, paper), True)
            self.assertEqual(against(case), paper)
            self.assertEqual(repr(case), before)
            sizes.add(len(paper[0]))
        self.assertTrue({2, 3} <= sizes)

    def test_none_where_the_case_can_be(self):
        many = 0
        for case in pressed_cases(60, 52) + random_cases(60, 5000, 52):
            if full_sum(case) != (0, 1) and ways(bare(case)) <= 5000:
                many += 1
                self.assertIsNone(against(case))
        self.assertGreater(many, 20)

    def test_the_paper_is_the_askers_own(self):
        for case in unfit_cases():
            paper = against(case)
            kept = copy.deepcopy(paper)
            lists = lists_of(paper)
            self.assertEqual(len({id(one) for one in lists}), len(lists))
            for one in lists:
                one.append("a")
                del one[0]
            self.assertEqual(against(case), kept)
            self.assertIs(lets_against(case, kept), True)
            self.assertIs(lets_against(case, paper), False)

    def test_by_name(self):
        self.assertEqual(against(case=FIRST), against(FIRST))


class LetsAgainstTest(Checks):
    def test_other_papers(self):
        chance = random.Random(53)
        for case in unfit_cases() + [case for case in pressed_cases(60, 54) if full_sum(case) == (0, 1)][:8]:
            size = len(least_lot(case))
            lots = [lot for lot in lots_by_size(len(case[2])) if len(lot) == size]
            for lot in [lot for lot in lots if full_sum(alone(case, lot)) == (0, 1)]:
                paper = another_paper(case, chance, lot)
                before = repr(paper)
                self.assertIs(lets_against(case, paper), True)
                self.assertEqual(repr(paper), before)

    def test_another_lot_that_can_not_be(self):
        case = case_of((None, None, (0, 1), (0, 1)), (THIRDS,), seen=((0, 0, LOW), (2, 0, HIGH), (3, 0, HIGH)))
        chance = random.Random(55)
        self.assertEqual(least_lot(case), (0, 1))
        self.assertIs(lets_against(case, another_paper(case, chance, (0, 2))), True)
        self.assertIs(lets_against(case, another_paper(case, chance, (0, 1))), True)

    def test_a_lot_that_does_not_rise(self):
        chance = random.Random(57)
        for case in unfit_cases():
            for lot in itertools.permutations(least_lot(case)):
                paper = another_paper(case, chance, lot)
                self.assertIs(lets_against(case, paper), lot == least_lot(case))

    def test_a_lot_with_fewer_that_can_not_be(self):
        case = unfit_cases()[3]
        part = alone(case, (0, 1, 2))
        chance = random.Random(56)
        things = [("pair", 0, 0), ("pair", 2, 0)] + plain_things(part)
        things = list(dict.fromkeys(things))
        tree = another_tree(part, tables_of(part), chance, {}, things)
        fewer = [lot for lot in lots_by_size(3) if len(lot) < 3]
        state = states_of(bare(case))[0][0]
        rows = [(lot, states_of(alone(case, lot))[0][0] if full_sum(alone(case, lot)) != (0, 1) else state)
                for lot in fewer]
        self.assertIs(shows(part, tables_of(part), tree, {}), True)
        self.assertIs(lets_against(case, ((0, 1, 2), tree, rows)), False)
        self.assertIs(lets_against(case, ((0, 1, 2), tree, [row for row in rows if row[0] != (0, 1)])), False)

    def test_places_otherwise(self):
        counts = {True: 0, False: 0}
        for case in unfit_cases():
            paper = against(case)
            for other in changed(case, paper):
                wanted = plain_lets(case, other)
                counts[wanted] += 1
                self.assertIs(lets_against(case, other), wanted, other)
        self.assertGreater(counts[True], 20)
        self.assertGreater(counts[False], 500)

    def test_a_tree_of_another_case(self):
        paper = against(FIRST)
        for case in unfit_cases()[1:]:
            self.assertIs(lets_against(case, paper), False)
            self.assertIs(lets_against(FIRST, against(case)), False)

    def test_a_case_that_can_be(self):
        paper = against(FIRST)
        for seen in ((), ((0, 0, LOW),), ((0, 0, LOW), (2, 0, HET)), ((0, 0, HET), (2, 0, HIGH))):
            self.assertIs(lets_against(case_of(TRIO, (HALVES,), seen=seen), paper), False)

    def test_table_numbers_are_those_of_the_lot_alone(self):
        case = case_of(TRIO, (HALVES,), seen=((0, 0, HET), (1, 0, LOW), (2, 0, HIGH)))
        lot, tree, rows = against(case)
        self.assertEqual(lot, (1, 2))
        part = alone(case, lot)
        self.assertIs(shows(part, tables_of(part), tree, {}), True)
        self.assertEqual(len(tables_of(part)), len(tables_of(case)) - 1)
        for path in trees_in(tree, ()):
            if at(tree, path) == len(tables_of(part)) - 1:
                other = put((lot, tree, rows), (1,) + path, len(tables_of(case)) - 1)
                self.assertIs(lets_against(case, other), False)

    def test_other_kinds(self):
        for case in unfit_cases()[:2]:
            paper = against(case)
            self.assert_all_false(lambda thing: lets_against(case, thing), of_other_kinds(paper))

    def test_truths_for_numbers(self):
        for case in unfit_cases():
            paper = against(case)
            for path in places(paper):
                part = at(paper, path)
                if part in (0, 1) and isinstance(part, int):
                    self.assertIs(lets_against(case, put(paper, path, bool(part))), False)

    def test_lists_and_tuples_exchanged(self):
        for case in unfit_cases():
            paper = against(case)
            for path in places(paper):
                part = at(paper, path)
                if isinstance(part, tuple):
                    self.assertIs(lets_against(case, put(paper, path, list(part))), False)
                elif isinstance(part, list):
                    self.assertIs(lets_against(case, put(paper, path, tuple(part))), False)

    def test_whatever(self):
        lot, tree, rows = against(FIRST)
        things = whatever() + [(), (lot,), (lot, tree), (lot, tree, rows, rows), (tree, lot, rows), [lot, tree, rows]]
        for thing in whatever():
            things += [(thing, tree, rows), (lot, thing, rows), (lot, tree, thing), (thing, thing, thing)]
            things += [(lot, (thing, tree[1]), rows), (lot, (tree[0], thing), rows), (lot, tree, [thing] * len(rows))]
            things += [(lot, (tree[0], [thing] * len(tree[1])), rows)]
        things += [((), tree, []), ((), 0, []), (lot, 0, rows), (lot, None, rows), "paper", {0: lot, 1: tree, 2: rows}]
        deep = 0
        for _ in range(8):
            deep = (tree[0], [(value, deep) for value, under in tree[1][:1]])
        things += [(lot, deep, rows), (lot, nested(tuple, 29), rows), (lot, tree, nested(list, 29))]
        wrong = [thing for thing in things if repr(thing) != repr((lot, tree, rows))]
        self.assert_all_false(lambda thing: lets_against(FIRST, thing), wrong)
        can_be = case_of(TRIO, (THREE,), seen=((2, 0, HET),))
        self.assert_all_false(lambda thing: lets_against(can_be, thing), things)
        self.assertIs(lets_against(can_be, (lot, tree, rows)), False)

    def test_by_name(self):
        self.assertIs(lets_against(thing=against(FIRST), case=FIRST), True)
        self.assertIs(lets_against(thing=None, case=FIRST), False)


if __name__ == "__main__":
    unittest.main()
