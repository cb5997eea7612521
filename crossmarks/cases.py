"""Cases: a family, a line, and what was seen."""

from crossmarks.errors import NoCase
from crossmarks.families import is_family
from crossmarks.lines import is_line
from crossmarks.plain import is_below, is_rising, is_tuple_of

MOST_SEEN = 8


def is_sorted_pair(thing, kinds):
    """Whether a thing, whatever it is, is a pair of so many kinds, the first no greater."""
    if not is_tuple_of(thing, 2, 2):
        return False
    kind, kind2 = thing
    return is_below(kind, kinds) and is_below(kind2, kinds) and kind <= kind2


def are_pairs(thing, kinds):
    """Whether a thing, whatever it is, is a rising tuple of one or more sorted pairs."""
    if not is_tuple_of(thing, 1, kinds * kinds):
        return False
    return all([is_sorted_pair(pair, kinds) for pair in thing]) and is_rising(thing)


def is_one_seen(family, line, thing):
    """Whether a thing, whatever it is, tells pairs of one member and mark."""
    if not is_tuple_of(thing, 3, 3):
        return False
    member, mark, pairs = thing
    if not is_below(member, len(family)) or not is_below(mark, len(line[0])):
        return False
    return are_pairs(pairs, len(line[0][mark]))


def are_seen(family, line, thing):
    """As is_seen, of a family and a line that are known to be such."""
    if not is_tuple_of(thing, 0, MOST_SEEN):
        return False
    if not all([is_one_seen(family, line, one) for one in thing]):
        return False
    # Rising by member and mark alone also tells that no two are alike in both.
    return is_rising([one[:2] for one in thing])


def is_seen(family, line, thing):
    """Whether a thing, whatever it is, is what may be seen of a family and a line."""
    return is_family(family) and is_line(line) and are_seen(family, line, thing)


def is_case(thing):
    """Whether a thing, whatever it is, is a case."""
    return is_tuple_of(thing, 3, 3) and is_seen(thing[0], thing[1], thing[2])


def as_tuple(part):
    """A list as a tuple; anything else as it is."""
    return tuple(part) if isinstance(part, list) else part


def case_of(family, marks, *, gaps=(), seen=()):
    """The case of these parts; NoCase, with the first part that is none."""
    members = as_tuple(family)
    line = (as_tuple(marks), as_tuple(gaps))
    rows = as_tuple(seen)
    if not is_family(members):
        raise NoCase("family")
    if not is_line(line):
        raise NoCase("line")
    if not are_seen(members, line, rows):
        raise NoCase("seen")
    return (members, line, rows)


def seen_of(case, member, mark):
    """The pairs that are seen of a member and mark, None where nothing is."""
    for one, place, pairs in case[2]:
        if one == member and place == mark:
            return pairs
    return None
