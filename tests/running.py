"""Programs, and what they tell, by the words of point 24, for several tests."""

import itertools
from fractions import Fraction

from crossmarks.states import states_of
from tests.keeping import changed, random_deed
from tests.samples import GAPS, bare, plain_things, told, ways


def plain_told(case, line):
    """What a line that asks tells, by sums over the listed states; "no" where it can't be done."""
    rows = [(state, Fraction(*weight)) for state, weight in states_of(case)]
    whole = sum([weight for state, weight in rows])
    if line[0] == "weight":
        return told(whole)
    if line[0] == "lot":
        for size in range(len(case[2]) + 1):
            for lot in itertools.combinations(range(len(case[2])), size):
                if not states_of((case[0], case[1], tuple([case[2][number] for number in lot]))):
                    return lot
        return None
    if line[1] >= len(case[0]) or line[2] >= len(case[1][0]):
        return "no"
    if not rows:
        return "none"
    place = plain_things(case).index(("pair",) + line[1:])
    sums = {}
    for state, weight in rows:
        pair = tuple(sorted(state[place]))
        sums[pair] = sums.get(pair, 0) + weight
    return [(pair, told(sums[pair] / whole)) for pair in sorted(sums)]


def plain_run(case, program):
    """What a program tells of a case."""
    found = []
    for line in program:
        if line[0] in ("weight", "carries", "lot"):
            found.append(plain_told(case, line))
            continue
        other = changed(case, line[0], line[1:])
        if other is None:
            found.append("no")
        else:
            case = other
    return found


def wrong_line(case, chance):
    """A line that can't be done, or makes no case."""
    members, marks, gaps = len(case[0]), len(case[1][0]), len(case[1][1])
    return chance.choice((
        ("see", members, 0, ((0, 0),)), ("see", 0, marks, ((0, 0),)), ("see", 0, 0, ((1, 0),)), ("see", 0, 0, ((0, 9),)),
        ("see", 0, 0, ((1, 1), (0, 0))), ("see", 0, 0, ((0, 0), (0, 0))), ("forget", members, 0), ("forget", 0, 9),
        ("gap", gaps, (1, 3)), ("gap", 9, (1, 3)), ("gap", 0, (2, 3)), ("gap", 0, (-1, 3)), ("carries", members, 0),
        ("carries", 0, marks), ("carries", 9, 9)))


def random_line(case, chance, most_ways):
    """A line for a case, and the case behind it: no line leads to more ways than told, or than there were."""
    word = chance.choice(("deed", "deed", "deed", "weight", "carries", "lot", "wrong"))
    if word == "wrong":
        return (wrong_line(case, chance), case)
    if word == "weight" or (word == "lot" and ways(bare(case)) > most_ways):
        return (("weight",), case)
    if word == "lot":
        return (("lot",), case)
    if word == "carries":
        return (("carries", chance.randrange(len(case[0])), chance.randrange(len(case[1][0]))), case)
    while True:
        deed, given = random_deed(case, chance)
        other = changed(case, deed, given)
        if other is None or ways(other) <= max(most_ways, ways(case)):
            return ((deed,) + given, case if other is None else other)


def random_program(case, chance, most_ways=5000):
    program = []
    for _ in range(chance.randrange(0, 13)):
        line, case = random_line(case, chance, most_ways)
        program.append(line)
    return tuple(program)
