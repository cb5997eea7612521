"""Small programs: lines that change a case and ask for what it tells."""

from crossmarks.plain import is_below, is_tuple_of
from crossmarks.shares import is_share

MOST_LINES = 12
MOST_PAIRS = 9
NUMBERS = 10


def are_numbers(things):
    """Whether some things, whatever they are, are each a number from 0 to 9."""
    return all([is_below(thing, NUMBERS) for thing in things])


def are_told_pairs(thing):
    """Whether a thing, whatever it is, is a tuple of one to nine pairs of numbers."""
    if not is_tuple_of(thing, 1, MOST_PAIRS):
        return False
    return all([is_tuple_of(pair, 2, 2) and are_numbers(pair) for pair in thing])


def is_program_line(thing):
    """Whether a thing, whatever it is, may be a line of a program."""
    if not is_tuple_of(thing, 1, 4):
        return False
    word = thing[0]
    many = len(thing)
    if word == "weight" or word == "lot":
        return many == 1
    if word == "forget" or word == "carries":
        return many == 3 and are_numbers(thing[1:])
    if word == "gap":
        return many == 3 and are_numbers(thing[1:2]) and is_share(thing[2])
    return word == "see" and many == 4 and are_numbers(thing[1:3]) and are_told_pairs(thing[3])


def is_program(thing):
    """Whether a thing, whatever it is, is a program."""
    return is_tuple_of(thing, 0, MOST_LINES) and all([is_program_line(line) for line in thing])
