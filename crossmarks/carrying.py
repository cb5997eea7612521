"""What members may carry, with shares."""

from crossmarks.errors import NoThing, NoWeight
from crossmarks.holding import summed_over
from crossmarks.plain import copied, is_below
from crossmarks.shares import NOUGHT, over, share_of, times, total


def thing_shares(case, thing):
    """The rising list of (value, share) of a thing, each share above 0; NoThing, then NoWeight."""
    sums = summed_over(case, (thing,))
    weight = total([part for held, part in sums])
    if weight == NOUGHT:
        raise NoWeight("the case can't be")
    return [(held[0][1], over(part, weight)) for held, part in sums if part != NOUGHT]


def need_place(case, member, mark):
    """Refuses what is no member and mark of the case, whatever they are, with NoThing of both."""
    if not is_below(member, len(case[0])) or not is_below(mark, len(case[1][0])):
        raise NoThing((copied(member), copied(mark)))


def carries(case, member, mark):
    """The rising list of (pair, share) of a member and mark, by kinds sorted; NoThing, then NoWeight."""
    need_place(case, member, mark)
    shares = {}
    for pair, share in thing_shares(case, ("pair", member, mark)):
        kinds = tuple(sorted(pair))
        shares[kinds] = total([share, shares.get(kinds, NOUGHT)])
    return [(kinds, shares[kinds]) for kinds in sorted(shares)]


def expected(case, member, mark, kind):
    """The expected count of a kind in the pair of a member and mark; NoThing, then NoWeight."""
    return total([times(share, share_of(pair.count(kind))) for pair, share in carries(case, member, mark)])
