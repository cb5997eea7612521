"""Which shares of a gap fit best what was seen."""

from crossmarks.changes import with_gap
from crossmarks.shares import greatest_place
from crossmarks.states import full_sum


def weights_by(case, gap, shares):
    """The list of the weights of the case with each share as this gap's."""
    return [full_sum(with_gap(case, gap, share)) for share in shares]


def fitted(case, gap, shares):
    """The share that fits best, its weight, and the list of its neighbours with theirs."""
    weights = weights_by(case, gap, shares)
    best = greatest_place(weights)
    beside = [(shares[place], weights[place]) for place in (best - 1, best + 1) if 0 <= place < len(shares)]
    return (shares[best], weights[best], beside)
