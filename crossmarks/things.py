"""The things of a case, and the values that each may have."""

from crossmarks.errors import NoThing
from crossmarks.plain import copied, is_below, is_from_nought, is_tuple_of


def has_form(thing):
    """Whether a thing, whatever it is, has one of the two forms of things, of whatever case."""
    if is_tuple_of(thing, 3, 3):
        word, member, mark = thing
        return word == "pair" and is_from_nought(member) and is_from_nought(mark)
    if is_tuple_of(thing, 4, 4):
        word, member, side, mark = thing
        return word == "turn" and is_from_nought(member) and is_below(side, 2) and is_from_nought(mark)
    return False


def is_thing(case, thing):
    """Whether a thing, whatever it is, is one of the case."""
    if not has_form(thing):
        return False
    if thing[1] >= len(case[0]) or thing[-1] >= len(case[1][0]):
        return False
    return thing[0] == "pair" or case[0][thing[1]] is not None


def things_of(case):
    """The rising list of all things of a case."""
    family = case[0]
    marks = len(case[1][0])
    pairs = [("pair", member, mark) for member in range(len(family)) for mark in range(marks)]
    others = [member for member in range(len(family)) if family[member] is not None]
    turns = [("turn", member, side, mark) for member in others for side in (0, 1) for mark in range(marks)]
    return pairs + turns


def pairs_of(kinds):
    """The rising list of all pairs (x, y) of so many kinds."""
    return [(kind, kind2) for kind in range(kinds) for kind2 in range(kinds)]


def values_of(case, thing):
    """The rising list of the values of a thing; NoThing of what is none."""
    if not is_thing(case, thing):
        raise NoThing(copied(thing))
    if thing[0] == "turn":
        return [0, 1]
    return pairs_of(len(case[1][0][thing[2]]))
