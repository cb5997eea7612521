"""Which tables of a keep hang on what, by the words of point 22, and changes for several tests."""

import itertools

from crossmarks.cases import is_case
from tests.samples import GAPS, plain_things, sorted_pairs


def plain_scopes(case):
    """The (name, things) of each table of the case, by the words of point 9."""
    family, (marks, gaps), seen = case
    found = []
    for member, elders in enumerate(family):
        for mark in range(len(marks)):
            if elders is None:
                found.append(("founder", {("pair", member, mark)}))
                continue
            for side, above in enumerate(elders):
                found.append(("down", {("pair", above, mark), ("pair", member, mark), ("turn", member, side, mark)}))
    for member, elders in enumerate(family):
        for side in (0, 1) if elders is not None else ():
            found.append(("begin", {("turn", member, side, 0)}))
            for gap in range(len(gaps)):
                found.append((("gap", gap), {("turn", member, side, gap), ("turn", member, side, gap + 1)}))
    return found + [(("seen", member, mark), {("pair", member, mark)}) for member, mark, _ in seen]


def plain_hanging(case, order):
    """By each thing the names of all tables that the one made for it hangs on, in turn."""
    tables = [({name}, things) for name, things in plain_scopes(case)]
    hangs = {}
    for thing in order:
        having = [table for table in tables if thing in table[1]]
        tables = [table for table in tables if thing not in table[1]]
        hangs[thing] = set().union(*[names for names, _ in having])
        tables.append((hangs[thing], set().union(*[things for _, things in having]) - {thing}))
    return hangs


def hanging_on(case, order, name):
    """The things whose tables hang on a table of this name."""
    hangs = plain_hanging(case, order)
    return {thing for thing in order if name in hangs[thing]}


def changed(case, deed, given):
    """The case behind a deed, by the words of points 22 and 24; None where it can't be done or makes no case."""
    family, (marks, gaps), seen = case
    rows = {row[:2]: row for row in seen}
    if deed == "see":
        rows[given[:2]] = given
    elif deed == "forget":
        if given not in rows:
            return None
        del rows[given]
    else:
        number, share = given
        if number >= len(gaps):
            return None
        gaps = gaps[:number] + (share,) + gaps[number + 1:]
    case = (family, (marks, gaps), tuple([rows[place] for place in sorted(rows)]))
    return case if is_case(case) else None


def random_deed(case, chance):
    """A deed (word, given) that fits the family and the line, if perhaps not what is seen."""
    family, (marks, gaps), seen = case
    word = chance.choice(("see", "see", "see", "forget", "forget", "gap"))
    if word == "gap" and gaps:
        return ("gap", (chance.randrange(len(gaps)), chance.choice(GAPS)))
    places = list(itertools.product(range(len(family)), range(len(marks))))
    if word == "see" and chance.random() < 0.2 and seen:
        return ("see", chance.choice(seen))
    member, mark = chance.choice(places)
    if word == "forget":
        return ("forget", chance.choice(seen)[:2] if seen and chance.random() < 0.8 else (member, mark))
    pairs = sorted_pairs(len(marks[mark]))
    return ("see", (member, mark, tuple(sorted(chance.sample(pairs, chance.randrange(1, len(pairs) + 1))))))


def shuffled_order(case, chance):
    things = plain_things(case)
    chance.shuffle(things)
    return tuple(things)
