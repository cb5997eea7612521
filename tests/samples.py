"""Cases for several tests, and what the document says of them, written anew with Python's own fractions."""

import itertools
import random
from fractions import Fraction

HALVES = ((1, 2), (1, 2))
THIRDS = ((1, 3), (2, 3))
THREE = ((1, 2), (1, 3), (1, 6))
GAPS = ((0, 1), (1, 2), (1, 10), (1, 3), (123, 4567))
MARKS = (HALVES, THIRDS, THREE, ((1, 5), (4, 5)), ((1, 9999), (9998, 9999)), ((2, 7), (4, 7), (1, 7)))
FAMILIES = (
    (None,), (None, None), (None, None, None), (None, None, (0, 1)), (None, None, (1, 0)),
    (None, None, (0, 1), (0, 1)), (None, None, (0, 1), (2, 0)), (None, None, None, (0, 1), (3, 2)),
    (None, None, (1, 0), (0, 1), (3, 2)), (None, None, (0, 1), None, (2, 3)),
)

WIDE_FAMILIES = FAMILIES[3:] + (
    (None, None, (0, 1), (0, 1), (0, 1)), (None, None, (0, 1), (0, 1), (2, 3)), (None, None, (0, 1), (0, 2), (0, 3)),
    (None, None, (0, 1), (2, 0), (2, 1)),
)


def line(marks, *gaps):
    return (tuple(marks), tuple(gaps))


def sorted_pairs(kinds):
    return [(kind, kind2) for kind in range(kinds) for kind2 in range(kind, kinds)]


def ways(case):
    """The product that point 7 bounds."""
    family, (marks, _), seen = case
    told = {row[:2]: row[2] for row in seen}
    many = 1
    for member, elders in enumerate(family):
        for number, mark in enumerate(marks):
            pairs = told.get((member, number), sorted_pairs(len(mark)))
            many *= 4 if elders is not None else sum([1 if x == y else 2 for x, y in pairs])
    return many


def random_case(chance, most_ways, families=FAMILIES):
    """A case of no more ways than told."""
    while True:
        family = chance.choice(families)
        marks = tuple([chance.choice(MARKS) for _ in range(chance.choice((1, 1, 2, 2, 3)))])
        gaps = tuple([chance.choice(GAPS) for _ in marks[1:]])
        places = list(itertools.product(range(len(family)), range(len(marks))))
        chance.shuffle(places)
        seen = []
        for member, mark in sorted(places[:chance.randrange(0, 9)]):
            pairs = sorted_pairs(len(marks[mark]))
            seen.append((member, mark, tuple(sorted(chance.sample(pairs, chance.randrange(1, len(pairs) + 1))))))
        case = (family, (marks, gaps), tuple(seen))
        if ways(case) <= most_ways:
            return case


def random_cases(many, most_ways, seed=7, families=FAMILIES):
    chance = random.Random(seed)
    return [random_case(chance, most_ways, families) for _ in range(many)]


def wide_case(chance, least_ways):
    """A case of children and few kinds of founders, of no fewer ways than told and no more than five thousand."""
    while True:
        family = chance.choice(WIDE_FAMILIES)
        marks = tuple([chance.choice(MARKS) for _ in range(chance.choice((1, 2, 2, 3, 3)))])
        gaps = tuple([chance.choice(GAPS) for _ in marks[1:]])
        places = list(itertools.product(range(len(family)), range(len(marks))))
        chance.shuffle(places)
        # Founders first: what is seen of them leaves room for more children and marks.
        places = sorted(places, key=lambda place: family[place[0]] is not None)[:8]
        seen = []
        for member, mark in sorted(places):
            pairs = sorted_pairs(len(marks[mark]))
            seen.append((member, mark, tuple(sorted(chance.sample(pairs, chance.choice((1, 1, 1, 2)))))))
        case = (family, (marks, gaps), tuple(seen))
        if least_ways <= ways(case) <= 5000:
            return case


def wide_cases(many, least_ways, seed=7):
    chance = random.Random(seed)
    return [wide_case(chance, least_ways) for _ in range(many)]


def plain_things(case):
    """The things of a case, by the words of point 6."""
    family, (marks, _), _ = case
    found = [("pair", member, mark) for member in range(len(family)) for mark in range(len(marks))]
    for member, elders in enumerate(family):
        if elders is not None:
            found += [("turn", member, side, mark) for side in (0, 1) for mark in range(len(marks))]
    return sorted(found)


def plain_values(case, thing):
    if thing[0] == "turn":
        return [0, 1]
    return sorted(itertools.product(range(len(case[1][0][thing[2]])), repeat=2))


def plain_weight(case, state):
    """The weight of a state, by the words of point 7."""
    family, (marks, gaps), seen = case
    worth = dict(zip(plain_things(case), state))
    for member, mark, pairs in seen:
        if tuple(sorted(worth["pair", member, mark])) not in pairs:
            return Fraction(0)
    weight = Fraction(1)
    for member, elders in enumerate(family):
        if elders is None:
            for number, mark in enumerate(marks):
                for kind in worth["pair", member, number]:
                    weight *= Fraction(*mark[kind])
            continue
        for side, above in enumerate(elders):
            turns = [worth["turn", member, side, number] for number in range(len(marks))]
            for number, turn in enumerate(turns):
                if worth["pair", member, number][side] != worth["pair", above, number][turn]:
                    return Fraction(0)
            weight /= 2
            for number, gap in enumerate(gaps):
                unlike = turns[number] != turns[number + 1]
                weight *= Fraction(*gap) if unlike else 1 - Fraction(*gap)
    return weight


def plain_states(case):
    """All states, as they rise."""
    return itertools.product(*[plain_values(case, thing) for thing in plain_things(case)])


def how_many_states(case):
    many = 1
    for thing in plain_things(case):
        many *= len(plain_values(case, thing))
    return many


def told(number):
    """A number of Python's own as a share."""
    number = Fraction(number)
    return (number.numerator, number.denominator)


def bare(case):
    """The case with nothing seen."""
    return (case[0], case[1], ())


def brief_cases(many, most_states=3000, seed=5):
    """Cases whose states can all be gone through."""
    found = [case for case in random_cases(many * 40, 5000, seed) if how_many_states(case) <= most_states]
    return found[:many]
