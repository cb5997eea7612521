"""How shares of crossing go along a line."""

from crossmarks.errors import NoShare, NoThing
from crossmarks.lines import is_gap
from crossmarks.plain import copied, is_below
from crossmarks.shares import NOUGHT, ONE, less, over, plus, times

TWICE = (2, 1)


def far(share, other):
    """The share of strings that are found crossed over two gaps."""
    return less(plus(share, other), times(TWICE, times(share, other)))


def far_along(shares):
    """The share of strings that are found crossed over a row of gaps."""
    result = NOUGHT
    for share in shares:
        result = far(result, share)
    return result


def between(line, mark, mark2):
    """The far between two marks of a line, in either order."""
    return far_along(line[1][min(mark, mark2):max(mark, mark2)])


def near(share, other):
    """The gap that makes, with the other one, this far; NoShare where there is none from 0 to 1 / 2."""
    result = over(less(share, other), less(ONE, times(TWICE, other)))
    if not is_gap(result):
        raise NoShare("no gap makes this far")
    return result


def gaps_without(gaps, mark):
    """The gaps of a line without a mark, the far of both in place of the two beside it."""
    if mark == 0:
        return gaps[1:]
    if mark == len(gaps):
        return gaps[:-1]
    return gaps[:mark - 1] + (far(gaps[mark - 1], gaps[mark]),) + gaps[mark + 1:]


def may_go(case, mark):
    """Whether something, whatever it is, is a mark that nobody was seen for, and not the only one."""
    many = len(case[1][0])
    return many > 1 and is_below(mark, many) and mark not in [place for member, place, pairs in case[2]]


def without_mark(case, mark):
    """The case without a mark that nobody was seen for; NoThing of whatever else."""
    if not may_go(case, mark):
        raise NoThing(copied(mark))
    family, (marks, gaps), seen = case
    rows = [(member, place - 1 if place > mark else place, pairs) for member, place, pairs in seen]
    return (family, (marks[:mark] + marks[mark + 1:], gaps_without(gaps, mark)), tuple(rows))
