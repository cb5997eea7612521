"""Cases that can't be, for several tests."""

import itertools
import random

from crossmarks.cases import case_of
from tests.samples import GAPS, HALVES, MARKS, THIRDS, THREE, WIDE_FAMILIES, bare, sorted_pairs, ways

SPLIT = case_of(
    (None, None, (0, 1), (0, 1), (0, 1)), (((1, 4), (1, 4), (1, 2)),),
    seen=((2, 0, ((0, 0),)), (3, 0, ((1, 1),)), (4, 0, ((2, 2),))))


def alone(case, lot):
    """The case with what a lot names alone."""
    return (case[0], case[1], tuple([case[2][number] for number in lot]))


def lots_by_size(many):
    """All lots, by how many and then as they rise."""
    return [lot for size in range(many + 1) for lot in itertools.combinations(range(many), size)]


def pressed_case(chance):
    """A case of which much is seen, of at most five thousand ways with nothing seen."""
    while True:
        family = chance.choice(WIDE_FAMILIES)
        marks = tuple([chance.choice(MARKS) for _ in range(chance.choice((1, 1, 1, 2)))])
        gaps = tuple([chance.choice(GAPS) for _ in marks[1:]])
        places = list(itertools.product(range(len(family)), range(len(marks))))
        seen = []
        for member, mark in sorted(chance.sample(places, min(len(places), chance.randrange(2, 9)))):
            pairs = sorted_pairs(len(marks[mark]))
            seen.append((member, mark, tuple(sorted(chance.sample(pairs, chance.choice((1, 1, 2)))))))
        case = (family, (marks, gaps), tuple(seen))
        if ways(bare(case)) <= 5000:
            return case


def pressed_cases(many, seed):
    chance = random.Random(seed)
    return [pressed_case(chance) for _ in range(many)]


def unfit_cases():
    """Some small cases that can't be, with lots of two and of three, by hand."""
    low, het, high = ((0, 0),), ((0, 1),), ((1, 1),)
    trio = (None, None, (0, 1))
    return [
        case_of(trio, (HALVES,), seen=((0, 0, low), (2, 0, high))),
        case_of(trio, (HALVES,), seen=((0, 0, low), (1, 0, low), (2, 0, het))),
        case_of((None, None, (1, 0)), (THIRDS,), seen=((0, 0, low), (1, 0, low), (2, 0, high))),
        case_of((None, None, (0, 1), (0, 1)), (THIRDS,), seen=((0, 0, low), (2, 0, high), (3, 0, high))),
        case_of((None, None, (0, 1), None, (2, 3)), (HALVES,), seen=((0, 0, low), (1, 0, low), (4, 0, high))),
        case_of(trio, (HALVES, HALVES), gaps=((0, 1),), seen=((0, 1, high), (1, 0, low), (2, 0, low), (2, 1, low))),
        case_of(trio, (THREE,), seen=((0, 0, ((0, 1),)), (2, 0, ((2, 2),)))),
    ]
