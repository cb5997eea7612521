"""Families: who has which elders."""

from crossmarks.plain import is_below, is_tuple_of

MOST_MEMBERS = 5


def is_member(thing, number):
    """Whether a thing, whatever it is, may stand in a family as the member of this number."""
    if thing is None:
        return True
    if not is_tuple_of(thing, 2, 2):
        return False
    one, other = thing
    return is_below(one, number) and is_below(other, number) and one != other


def is_family(thing):
    """Whether a thing, whatever it is, is a family."""
    if not is_tuple_of(thing, 1, MOST_MEMBERS):
        return False
    return all([is_member(thing[number], number) for number in range(len(thing))])


def founders(family):
    """The rising list of the numbers of those without elders."""
    return [number for number in range(len(family)) if family[number] is None]


def elder(family, member, side):
    """The number of the elder from whom the string of this side comes."""
    return family[member][side]
