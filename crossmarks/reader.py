"""Shares and cases, read back from texts."""

from crossmarks.cases import are_seen
from crossmarks.errors import NoText
from crossmarks.families import is_family
from crossmarks.lines import MOST_MARKS, is_gap, is_line, is_mark
from crossmarks.words import numbers_in, seen_in, share_in, shares_in


def read_share(text):
    """The share that a text writes; NoText of any other thing."""
    share = share_in(text) if isinstance(text, str) else None
    if share is None:
        raise NoText(None)
    return share


def member_behind(begun, words):
    """The case begun, with one more member, None where it can't be."""
    members, marks, gaps, seen = begun
    elders = numbers_in(words) if words else None
    if words and elders is None:
        return None
    more = members + (elders,)
    return (more, marks, gaps, seen) if is_family(more) and not marks else None


def mark_behind(begun, words):
    """The case begun, with one more mark, None where it can't be."""
    members, marks, gaps, seen = begun
    mark = shares_in(words)
    # Marks stand behind one member at least, and ahead of all gaps and seen.
    if not members or gaps or seen or len(marks) == MOST_MARKS or not is_mark(mark):
        return None
    return (members, marks + (mark,), gaps, seen)


def gap_behind(begun, words):
    """The case begun, with one more gap, None where it can't be."""
    members, marks, gaps, seen = begun
    share = share_in(words[0]) if len(words) == 1 else None
    # What is seen stands behind all gaps, so that none is left to stand behind it.
    if len(gaps) + 1 >= len(marks) or not is_gap(share):
        return None
    return (members, marks, gaps + (share,), seen)


def seen_behind(begun, words):
    """The case begun, with one more seen, None where it can't be."""
    members, marks, gaps, seen = begun
    one = seen_in(words)
    if one is None or not is_line((marks, gaps)):
        return None
    more = seen + (one,)
    return (members, marks, gaps, more) if are_seen(members, (marks, gaps), more) else None


BEHIND = {"member": member_behind, "mark": mark_behind, "gap": gap_behind, "seen": seen_behind}


def line_behind(begun, line):
    """The case begun, with one more line, None where no case begins so."""
    word, *words = line.split(" ")
    if word not in BEHIND:
        return None
    behind = BEHIND[word]
    return behind(begun, words)


def read_case(text):
    """The case that a text writes; NoText of any other thing, with the number of the first wrong line."""
    if not isinstance(text, str):
        raise NoText(None)
    lines = text.split("\n")
    # What stands behind the last line end is no line, and nothing but the empty text may stand there.
    rest = lines.pop()
    begun = ((), (), (), ())
    for number, line in enumerate(lines):
        begun = line_behind(begun, line)
        if begun is None:
            raise NoText(number)
    members, marks, gaps, seen = begun
    if rest != "" or not is_line((marks, gaps)):
        raise NoText(len(lines))
    return (members, (marks, gaps), seen)
