"""Changes of a case: something seen more, otherwise or no more, and another share of a gap."""

from crossmarks.cases import are_seen, is_one_seen
from crossmarks.errors import NoCase, NoThing
from crossmarks.lines import is_gap
from crossmarks.plain import copied, is_below, is_whole


def with_seen(case, member, mark, pairs):
    """The case with these pairs seen of a member and mark, in place of what was; NoCase of whatever makes none."""
    family, line, seen = case
    one = (member, mark, pairs)
    if not is_one_seen(family, line, one):
        raise NoCase("seen")
    rows = tuple(sorted([other for other in seen if other[:2] != (member, mark)] + [one]))
    if not are_seen(family, line, rows):
        raise NoCase("seen")
    return (family, line, rows)


def without_seen(case, member, mark):
    """The case with nothing seen of a member and mark; NoThing of both, whatever they are, where nothing was."""
    family, line, seen = case
    places = [one[:2] for one in seen]
    if not is_whole(member) or not is_whole(mark) or (member, mark) not in places:
        raise NoThing((copied(member), copied(mark)))
    return (family, line, tuple([one for one in seen if one[:2] != (member, mark)]))


def with_gap(case, gap, share):
    """The case with another share as this gap's, the others as they stand."""
    family, (marks, gaps), seen = case
    return (family, (marks, gaps[:gap] + (share,) + gaps[gap + 1:]), seen)


def with_told_gap(case, number, share):
    """As with_gap; NoCase of whatever makes none."""
    if not is_below(number, len(case[1][1])) or not is_gap(share):
        raise NoCase("line")
    return with_gap(case, number, share)
