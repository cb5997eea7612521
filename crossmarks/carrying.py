"""What members may carry, with shares."""

from crossmarks.errors import NoThing, NoWeight
from crossmarks.holding import places_of, summed_over
from crossmarks.plain import copied, is_below
from crossmarks.shares import NOUGHT, over, share_of, times, total
from crossmarks.states import weighed_states


def thing_shares(case, thing):
    """The rising list of (value, share) of a thing, each share above 0; NoThing, then NoWeight."""
    sums = summed_over(case, (thing,))
    weight = total([part for held, part in sums])
    if weight == NOUGHT:
        raise NoWeight("the case can't be")
    return [(held[0][1], over(part, weight)) for held, part in sums if part != NOUGHT]


def need_place(case, member, mark):
    """Refuses what is no member and mark of the case, whatever they are, with NoThing of both."""
    if not is_below(member, len(case[0])) or not is_below(mark, len(case[1][0])):
        raise NoThing((copied(member), copied(mark)))


def pair_place(case, member, mark):
    """Where the pair of a member and mark stands in each state of the case."""
    return places_of(case, [("pair", member, mark)])[0]


def carried_at(rows, place):
    """The rising list of (pair, share), kinds sorted, of the pairs at one place of some (values, weight)."""
    weights = {}
    for values, weight in rows:
        kinds = tuple(sorted(values[place]))
        if kinds not in weights:
            weights[kinds] = []
        weights[kinds].append(weight)
    whole_weight = total([weight for values, weight in rows])
    return [(kinds, over(total(weights[kinds]), whole_weight)) for kinds in sorted(list(weights))]


def carries(case, member, mark):
    """The rising list of (pair, share) of a member and mark, by kinds sorted; NoThing, then NoWeight."""
    need_place(case, member, mark)
    return carried_at(weighed_states(case), pair_place(case, member, mark))


def expected(case, member, mark, kind):
    """The expected count of a kind in the pair of a member and mark; NoThing, then NoWeight."""
    return total([times(share, share_of(pair.count(kind))) for pair, share in carries(case, member, mark)])
