"""Point 24: what is a program."""

import math
import random
import unittest

from crossmarks.programs import is_program
from tests.support import Checks, nested, of_other_kinds, whatever

LINES = (
    ("see", 0, 1, ((0, 0), (1, 2))), ("forget", 9, 0), ("gap", 3, (1, 2)), ("weight",), ("carries", 2, 9), ("lot",))


def is_number(thing):
    return type(thing) is int and 0 <= thing <= 9


def plain_is_line(thing):
    """Whether a thing is a line, by the words of point 24."""
    if type(thing) is not tuple or not thing or type(thing[0]) is not str:
        return False
    word, parts = thing[0], thing[1:]
    if word in ("weight", "lot"):
        return parts == ()
    if word in ("forget", "carries"):
        return len(parts) == 2 and is_number(parts[0]) and is_number(parts[1])
    if word == "gap":
        if len(parts) != 2 or not is_number(parts[0]) or type(parts[1]) is not tuple or len(parts[1]) != 2:
            return False
        return all([type(one) is int for one in parts[1]]) and parts[1][1] >= 1 and math.gcd(*parts[1]) == 1
    if word != "see" or len(parts) != 3 or not is_number(parts[0]) or not is_number(parts[1]):
        return False
    if type(parts[2]) is not tuple or not 1 <= len(parts[2]) <= 9:
        return False
    return all([type(pair) is tuple and len(pair) == 2 and all([is_number(one) for one in pair]) for pair in parts[2]])


def plain_is_program(thing):
    return type(thing) is tuple and len(thing) <= 12 and all([plain_is_line(line) for line in thing])


class IsProgramTest(Checks):
    def test_programs(self):
        self.assert_all_true(is_program, [
            (), LINES, LINES * 2, (("weight",),) * 12, (("see", 9, 9, ((9, 9),)),), (("see", 0, 0, ((0, 0),) * 9),),
            (("see", 0, 0, ((1, 0), (0, 0))),), (("gap", 0, (-5, 3)),), (("gap", 9, (10 ** 99, 1)),), (("gap", 0, (0, 1)),),
            (("gap", 0, (7, 2)),), (("forget", 0, 0),), (("carries", 9, 9),), (("lot",), ("lot",))])

    def test_how_many_lines(self):
        for many in range(16):
            for line in LINES:
                self.assertIs(is_program((line,) * many), many <= 12)

    def test_no_programs_by_hand(self):
        for line in (
                (), ("",), ("weigh",), ("weight", 0), ("weight", ()), ("lot", 0), ("lot", None), ("made",), ("room",),
                ("case",), ("Weight",), ("weight\n",), ("weight ",), ("forget",), ("forget", 0), ("forget", 0, 0, 0),
                ("forget", 10, 0), ("forget", 0, 10), ("forget", -1, 0), ("forget", 0, -1), ("forget", True, 0),
                ("forget", 0, False), ("forget", "0", 0), ("forget", None, 0), ("forget", (0,), 0), ("carries",),
                ("carries", 0), ("carries", 0, 0, 0), ("carries", 10, 0), ("carries", 0, 10), ("carries", 0, True),
                ("carries", [0], 0), ("gap",), ("gap", 0), ("gap", (1, 2)), ("gap", 0, (1, 2), 0), ("gap", 10, (1, 2)),
                ("gap", -1, (1, 2)), ("gap", True, (1, 2)), ("gap", 0, (2, 4)), ("gap", 0, (1, 0)), ("gap", 0, (0, 2)),
                ("gap", 0, (1, -2)), ("gap", 0, [1, 2]), ("gap", 0, "1/2"), ("gap", 0, 0), ("gap", 0, (True, 2)),
                ("gap", 0, (0, True)), ("gap", 0, (1, 2, 3)), ("gap", 0, None), ("see",), ("see", 0, 0),
                ("see", 0, 0, ()), ("see", 0, 0, ((0, 0),) * 10), ("see", 0, 0, ((0,),)), ("see", 0, 0, ((0, 0, 0),)),
                ("see", 0, 0, (0, 0)), ("see", 0, 0, [(0, 0)]), ("see", 0, 0, ([0, 0],)), ("see", 0, 0, ((0, 10),)),
                ("see", 0, 0, ((-1, 0),)), ("see", 0, 0, ((0, True),)), ("see", 0, 0, ((0, "0"),)), ("see", 0, 0, None),
                ("see", 10, 0, ((0, 0),)), ("see", 0, 10, ((0, 0),)), ("see", True, 0, ((0, 0),)),
                ("see", 0, 0, ((0, 0),), 0), ("see", 0, 0, "00"), ("see", 0, 0, {(0, 0): 1}), ["weight"], "weight",
                ("weight", "weight"), None, 0, True, {}, {0: "weight"}, (None,), (0,), (["weight"],), ({},),
                (("weight",),), (nested(tuple, 29),), nested(list, 28)):
            self.assert_all_false(is_program, [(line,), (("weight",), line), (line, ("weight",)), LINES + (line,)])
        self.assert_all_false(is_program, [
            ("weight",), [("weight",)], [], {}, "weight", None, ((("weight",),),), {0: ("weight",)}, LINES * 3, "", 0])

    def test_whatever_it_is(self):
        things = whatever() + [(thing,) for thing in whatever()] + of_other_kinds(LINES)
        things += [((word, thing),) for thing in whatever() for word in ("weight", "see", "gap")]
        things += [((word, 0, thing),) for thing in whatever() for word in ("forget", "carries", "gap")]
        things += [(("see", 0, 0, thing),) for thing in whatever()] + [((thing, 0, 0),) for thing in whatever()]
        found = [plain_is_program(thing) for thing in things]
        self.assertIn(True, found)
        for thing, wanted in zip(things, found):
            before = repr(thing)
            self.assertIs(is_program(thing), wanted, thing)
            self.assertEqual(repr(thing), before)

    def test_by_name(self):
        self.assertIs(is_program(thing=LINES), True)


if __name__ == "__main__":
    unittest.main()
