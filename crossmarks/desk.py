"""A desk: keeps a keep, and answers lines of text."""

from crossmarks.carrying import carries
from crossmarks.errors import NoCase, NoText, NoThing, NoWeight
from crossmarks.keep import Keep
from crossmarks.lots import least_lot
from crossmarks.peeling import peeled
from crossmarks.reader import read_case
from crossmarks.texts import show_pair, show_share
from crossmarks.words import number_in, numbers_in, seen_in, share_in

FIRST_CASE = ((None,), ((((1, 2), (1, 2)),), ()), ())
LONE_WORDS = ("weight", "lot", "made", "room")


def parts_of(word, words):
    """What the words behind the first one of a line tell, as a tuple, None where they make no such line."""
    if word in LONE_WORDS:
        return None if words else ()
    if word == "see":
        return seen_in(words)
    if len(words) != 2:
        return None
    if word == "forget" or word == "carries":
        return numbers_in(words)
    if word != "gap":
        return None
    parts = (number_in(words[0]), share_in(words[1]))
    return None if None in parts else parts


def show_carried(case, member, mark):
    """What a member carries at a mark, as a text; NoThing."""
    try:
        rows = carries(case, member, mark)
    except NoWeight:
        return "none"
    return " ".join([f"{show_pair(pair)}={show_share(share)}" for pair, share in rows])


def show_lot(lot):
    """A least lot, or None, as a text."""
    return "none" if lot is None else " ".join([str(number) for number in lot])


def told_of(keep, word, parts):
    """The answer to a line that asks, by its first word and what is told behind; NoThing."""
    if word == "weight":
        return show_share(keep.weight())
    if word == "carries":
        return show_carried(keep.case(), parts[0], parts[1])
    if word == "lot":
        return show_lot(least_lot(keep.case()))
    if word == "made":
        return str(keep.made())
    return str(peeled(keep.case(), keep.order())[1])


def done_to(keep, word, parts):
    """The answer to a line, by its first word and what is told behind; NoCase, NoThing."""
    if word == "see":
        keep.see(parts[0], parts[1], parts[2])
    elif word == "forget":
        keep.forget(parts[0], parts[1])
    elif word == "gap":
        keep.gap(parts[0], parts[1])
    else:
        return told_of(keep, word, parts)
    return "ok"


class Desk:
    """A keep, at first of one founder and one mark, that lines of text are said to."""

    def __init__(self):
        self.keep = Keep(FIRST_CASE)

    def say(self, text):
        """The answer to a line; NoText of what is no line of a desk."""
        if not isinstance(text, str):
            raise NoText(None)
        head, line_end, rest = text.partition("\n")
        if head == "case" and line_end != "":
            return self.take_case(rest)
        word, *words = text.split(" ")
        parts = parts_of(word, words)
        if parts is None:
            raise NoText(None)
        return self.answer(word, parts)

    def take_case(self, text):
        """Keeps the case that a text writes from now on."""
        try:
            case = read_case(text)
        except NoText:
            return "refused NoText"
        self.keep = Keep(case)
        return "ok"

    def answer(self, word, parts):
        """The answer to a line, also where a stage refuses it."""
        try:
            return done_to(self.keep, word, parts)
        except NoCase:
            return "refused NoCase"
        except NoThing:
            return "refused NoThing"
