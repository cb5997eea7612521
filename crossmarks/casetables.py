"""The tables of a case, whose product is the weight of each state."""

from crossmarks.families import elder
from crossmarks.rules import agrees, founder_share, gap_share, may_be
from crossmarks.shares import HALF, NOUGHT, ONE
from crossmarks.things import pairs_of


def founder_table(marks, member, mark):
    """The table of a founder's pair at a mark."""
    rows = [((pair,), founder_share(marks[mark], pair)) for pair in pairs_of(len(marks[mark]))]
    return ((("pair", member, mark),), tuple(rows))


def descent_table(case, member, side, mark):
    """The table of a member's pair, its turn and its elder's pair: 1 where they agree."""
    from_member = elder(case[0], member, side)
    pairs = pairs_of(len(case[1][0][mark]))
    rows = [
        ((from_pair, pair, turn), ONE)
        for from_pair in pairs for pair in pairs for turn in (0, 1) if agrees(pair, side, turn, from_pair)
    ]
    # An elder stands ahead of its child, so that its pair comes first as things rise.
    return ((("pair", from_member, mark), ("pair", member, mark), ("turn", member, side, mark)), tuple(rows))


def begin_table(member, side):
    """The table of the first turn of a string."""
    return ((("turn", member, side, 0),), (((0,), HALF), ((1,), HALF)))


def gap_table(gaps, member, side, number):
    """The table of the turns of a string on both sides of a gap."""
    shares = [((turn, turn2), gap_share(gaps[number], turn, turn2)) for turn in (0, 1) for turn2 in (0, 1)]
    rows = [(turns, share) for turns, share in shares if share != NOUGHT]
    return ((("turn", member, side, number), ("turn", member, side, number + 1)), tuple(rows))


def seen_table(marks, one):
    """The table of a seen pair: 1 for those that may be."""
    member, mark, pairs = one
    rows = [((pair,), ONE) for pair in pairs_of(len(marks[mark])) if may_be(pairs, pair)]
    return ((("pair", member, mark),), tuple(rows))


def member_tables(case, member):
    """The tables of the pairs of a member, mark by mark."""
    marks = case[1][0]
    if case[0][member] is None:
        return [founder_table(marks, member, mark) for mark in range(len(marks))]
    return [descent_table(case, member, side, mark) for mark in range(len(marks)) for side in (0, 1)]


def string_tables(gaps, member, side):
    """The tables of the turns of a string: its begin, then its gaps."""
    return [begin_table(member, side)] + [gap_table(gaps, member, side, number) for number in range(len(gaps))]


def tables_of(case):
    """The list of the tables of a case: of members, of turns, of what is seen."""
    family, (marks, gaps), seen = case
    tables = []
    for member in range(len(family)):
        tables.extend(member_tables(case, member))
    for member in range(len(family)):
        if family[member] is not None:
            tables.extend(string_tables(gaps, member, 0) + string_tables(gaps, member, 1))
    tables.extend([seen_table(marks, one) for one in seen])
    return tables
