"""Shares and cases, written as texts."""


def show_share(share):
    """A share as a text: its top alone where its bottom is 1."""
    top, bottom = share
    return str(top) if bottom == 1 else f"{top}/{bottom}"


def show_pair(pair):
    """A pair of kinds as a text."""
    return f"{pair[0]}:{pair[1]}"


def member_words(member):
    """The words of a member's line."""
    return ["member"] if member is None else ["member", str(member[0]), str(member[1])]


def seen_words(one):
    """The words of the line of one seen."""
    member, mark, pairs = one
    return ["seen", str(member), str(mark)] + [show_pair(pair) for pair in pairs]


def show_case(case):
    """A case as a text: members, marks, gaps, seen, line by line."""
    family, (marks, gaps), seen = case
    rows = [member_words(member) for member in family]
    rows.extend([["mark"] + [show_share(share) for share in mark] for mark in marks])
    rows.extend([["gap", show_share(gap)] for gap in gaps])
    rows.extend([seen_words(one) for one in seen])
    return "".join([" ".join(words) + "\n" for words in rows])
