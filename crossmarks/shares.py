"""Shares: exact parts of one, as tuples (top, bottom) in their one way."""

from crossmarks.errors import NoShare
from crossmarks.plain import is_tuple_of, is_whole

NOUGHT = (0, 1)
ONE = (1, 1)
HALF = (1, 2)


def common_divisor(number, other):
    """The greatest divisor in common of two whole numbers, 0 of two noughts."""
    number = abs(number)
    other = abs(other)
    while other != 0:
        number, other = other, number % other
    return number


def is_share(thing):
    """Whether a thing, whatever it is, is a share."""
    if not is_tuple_of(thing, 2, 2):
        return False
    top, bottom = thing
    if not is_whole(top) or not is_whole(bottom):
        return False
    return bottom >= 1 and common_divisor(top, bottom) == 1


def share_of(top, bottom=1):
    """The share that is top over bottom; NoShare where bottom is 0."""
    if bottom == 0:
        raise NoShare("no share has nought below")
    divisor = common_divisor(top, bottom)
    if bottom < 0:
        divisor = -divisor
    return (top // divisor, bottom // divisor)


def plus(share, other):
    """The sum of two shares."""
    return share_of(share[0] * other[1] + other[0] * share[1], share[1] * other[1])


def less(share, other):
    """The first share less the other one."""
    return plus(share, (-other[0], other[1]))


def times(share, other):
    """The product of two shares."""
    # Divided crosswise ahead, the numbers stay small: a long weight times a short share costs little.
    divisor = common_divisor(share[0], other[1])
    divisor2 = common_divisor(other[0], share[1])
    top = (share[0] // divisor) * (other[0] // divisor2)
    bottom = (share[1] // divisor2) * (other[1] // divisor)
    return (top, bottom)


def over(share, other):
    """The first share over the other one; NoShare where that is 0."""
    return times(share, share_of(other[1], other[0]))


def is_less(share, other):
    """Whether the first share is less than the other one."""
    return share[0] * other[1] < other[0] * share[1]


def greatest_place(shares):
    """The place of the greatest of some shares, the first of alike ones."""
    best = 0
    for place in range(len(shares)):
        if is_less(shares[best], shares[place]):
            best = place
    return best


def common_bottom(shares):
    """The least number that the bottom of each share divides."""
    bottom = 1
    for share in shares:
        # Weights of thousands of states have few bottoms: the common one seldom grows.
        if bottom % share[1] != 0:
            bottom = bottom * (share[1] // common_divisor(bottom, share[1]))
    return bottom


def total(shares):
    """The sum of a list or tuple of shares."""
    bottom = common_bottom(shares)
    return share_of(sum([share[0] * (bottom // share[1]) for share in shares]), bottom)


def product(shares):
    """The product of a list or tuple of shares."""
    result = ONE
    for share in shares:
        result = times(result, share)
    return result
