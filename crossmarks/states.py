"""The states of a case, and their weights."""

from crossmarks.cases import seen_of
from crossmarks.errors import NoWeight
from crossmarks.families import elder
from crossmarks.rules import agrees, founder_share, gap_share, may_be
from crossmarks.shares import HALF, NOUGHT, ONE, product, times, total
from crossmarks.things import pairs_of, things_of


def came_down(family, values, thing):
    """Whether the string of a turn has the kind that stands there on its elder's string."""
    word, member, side, mark = thing
    from_pair = values["pair", elder(family, member, side), mark]
    return agrees(values["pair", member, mark], side, values[thing], from_pair)


def thing_share(case, values, thing):
    """What one thing of a state adds to its weight, as a factor."""
    family, (marks, gaps), seen = case
    if thing[0] == "pair":
        word, member, mark = thing
        if not may_be(seen_of(case, member, mark), values[thing]):
            return NOUGHT
        return founder_share(marks[mark], values[thing]) if family[member] is None else ONE
    if not came_down(family, values, thing):
        return NOUGHT
    word, member, side, mark = thing
    if mark == 0:
        return HALF
    return gap_share(gaps[mark - 1], values["turn", member, side, mark - 1], values[thing])


def state_weight(case, state):
    """The weight of a state of the case."""
    things = things_of(case)
    values = dict(zip(things, state))
    return product([thing_share(case, values, thing) for thing in things])


def founder_ways(case, member):
    """The ways (pairs, share) of a founder along all marks that fit what is seen."""
    marks = case[1][0]
    ways = [((), ONE)]
    for number in range(len(marks)):
        pairs = seen_of(case, member, number)
        choices = [pair for pair in pairs_of(len(marks[number])) if may_be(pairs, pair)]
        ways = [
            (row + (pair,), times(share, founder_share(marks[number], pair)))
            for row, share in ways for pair in choices
        ]
    return ways


def string_ways(gaps):
    """The ways (turns, share) of one string along all marks that weigh more than 0."""
    ways = [((0,), HALF), ((1,), HALF)]
    for gap in gaps:
        ways = [
            (turns + (turn,), times(share, gap_share(gap, turns[-1], turn)))
            for turns, share in ways for turn in (0, 1)
        ]
    return [(turns, share) for turns, share in ways if share != NOUGHT]


def two_string_ways(gaps):
    """The ways (turns, turns2, share) of both strings of a member that is no founder."""
    ways = string_ways(gaps)
    return [(turns, turns2, times(share, share2)) for turns, share in ways for turns2, share2 in ways]


def with_founder(case, member, ways):
    """The ways (pairs, turns, weight) of all members ahead, each with every way of this founder."""
    own_ways = founder_ways(case, member)
    return [
        (pairs + own, turns, times(weight, share))
        for pairs, turns, weight in ways for own, share in own_ways
    ]


def with_child(case, member, strings, ways):
    """The ways (pairs, turns, weight) of all members ahead, each with every way down to this one."""
    marks = len(case[1][0])
    one = elder(case[0], member, 0) * marks
    other = elder(case[0], member, 1) * marks
    wanted = [seen_of(case, member, mark) for mark in range(marks)]
    found = []
    for pairs, turns, weight in ways:
        for own, own2, share in strings:
            row = [(pairs[one + at][own[at]], pairs[other + at][own2[at]]) for at in range(marks)]
            if all([may_be(wanted[at], row[at]) for at in range(marks)]):
                found.append((pairs + tuple(row), turns + own + own2, times(weight, share)))
    return found


def all_ways(case):
    """The ways (pairs, turns, weight) of the whole case that weigh more than 0."""
    # Elders stand ahead, so that turns alone tell a child's pairs: few of the many states are gone through.
    strings = two_string_ways(case[1][1])
    ways = [((), (), ONE)]
    for member in range(len(case[0])):
        if case[0][member] is None:
            ways = with_founder(case, member, ways)
        else:
            ways = with_child(case, member, strings, ways)
    return ways


def states_of(case):
    """The rising list of (state, weight) of all states that weigh more than 0."""
    return sorted([(pairs + turns, weight) for pairs, turns, weight in all_ways(case)])


def weighed_states(case):
    """As states_of; NoWeight where the case can't be."""
    rows = states_of(case)
    if not rows:
        raise NoWeight("the case can't be")
    return rows


def full_sum(case):
    """The weight of the case: the sum over all its states."""
    return total([weight for pairs, turns, weight in all_ways(case)])
