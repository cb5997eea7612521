"""The words of texts: numbers, shares and pairs, each written in its one way."""

from crossmarks.shares import is_share

FIGURES = "0123456789"
MOST_FIGURES = 12


def number_in(word):
    """The number that a word writes without a sign, None where it writes none."""
    if not 1 <= len(word) <= MOST_FIGURES or not all([sign in FIGURES for sign in word]):
        return None
    if word[0] == "0" and word != "0":
        return None
    return int(word)


def signed_number_in(word):
    """The number that a word writes, with a sign where it is below 0, None where it writes none."""
    if not word.startswith("-"):
        return number_in(word)
    number = number_in(word[1:])
    return None if number is None or number == 0 else -number


def share_in(word):
    """The share that a word writes, None where it writes none."""
    above, stroke, below = word.partition("/")
    top = signed_number_in(above)
    # Over 1 the top stands alone.
    if stroke == "":
        return None if top is None else (top, 1)
    bottom = number_in(below)
    if top is None or bottom is None or bottom == 1 or not is_share((top, bottom)):
        return None
    return (top, bottom)


def pair_in(word):
    """The pair of numbers that a word writes, None where it writes none."""
    first, colon, last = word.partition(":")
    kind = number_in(first)
    kind2 = number_in(last)
    if kind is None or kind2 is None:
        return None
    return (kind, kind2)


def numbers_in(words):
    """The tuple of the numbers of some words, None where one writes none."""
    numbers = tuple([number_in(word) for word in words])
    return None if None in numbers else numbers


def shares_in(words):
    """The tuple of the shares of some words, None where one writes none."""
    shares = tuple([share_in(word) for word in words])
    return None if None in shares else shares


def pairs_in(words):
    """The tuple of the pairs of some words, None where one writes none."""
    pairs = tuple([pair_in(word) for word in words])
    return None if None in pairs else pairs


def seen_in(words):
    """The (member, mark, pairs) of some words, None where they write none."""
    numbers = numbers_in(words[:2])
    pairs = pairs_in(words[2:])
    if numbers is None or pairs is None or len(words) < 3:
        return None
    return numbers + (pairs,)
