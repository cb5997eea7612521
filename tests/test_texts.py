"""Point 23: what is written."""

import unittest

from crossmarks.cases import case_of
from crossmarks.texts import show_case, show_share
from tests.samples import HALVES, THIRDS, THREE, random_cases, wide_cases
from tests.support import Checks

TRIO = (None, None, (0, 1))


def plain_share(share):
    """A share, by the words of point 23."""
    return str(share[0]) if share[1] == 1 else str(share[0]) + "/" + str(share[1])


def plain_text(case):
    """A case, by the words of point 23."""
    family, (marks, gaps), seen = case
    text = ""
    for member in family:
        text += "member\n" if member is None else "member " + str(member[0]) + " " + str(member[1]) + "\n"
    for mark in marks:
        text += "mark " + " ".join([plain_share(share) for share in mark]) + "\n"
    for gap in gaps:
        text += "gap " + plain_share(gap) + "\n"
    for member, mark, pairs in seen:
        text += " ".join(["seen", str(member), str(mark)] + [str(x) + ":" + str(y) for x, y in pairs]) + "\n"
    return text


class ShowShareTest(Checks):
    def test_by_hand(self):
        for share, wanted in (
                ((0, 1), "0"), ((1, 1), "1"), ((-1, 1), "-1"), ((12, 1), "12"), ((1, 2), "1/2"), ((-1, 2), "-1/2"),
                ((-3, 7), "-3/7"), ((9999, 10000), "9999/10000"), ((10 ** 99, 1), "1" + "0" * 99),
                ((1, 10 ** 99), "1/1" + "0" * 99), ((-(10 ** 99), 7), "-1" + "0" * 99 + "/7")):
            self.assertEqual(show_share(share), wanted)

    def test_by_name(self):
        self.assertEqual(show_share(share=(1, 2)), "1/2")


class ShowCaseTest(Checks):
    def test_by_hand(self):
        self.assertEqual(show_case(case_of((None,), (HALVES,))), "member\nmark 1/2 1/2\n")
        case = case_of(
            TRIO + ((2, 0),), (THIRDS, THREE, HALVES), gaps=((0, 1), (1, 10)),
            seen=((0, 0, ((0, 0),)), (2, 1, ((0, 0), (0, 2), (1, 1))), (3, 2, ((0, 1), (1, 1)))))
        self.assertEqual(show_case(case), (
            "member\nmember\nmember 0 1\nmember 2 0\nmark 1/3 2/3\nmark 1/2 1/3 1/6\nmark 1/2 1/2\ngap 0\ngap 1/10\n"
            "seen 0 0 0:0\nseen 2 1 0:0 0:2 1:1\nseen 3 2 0:1 1:1\n"))

    def test_by_the_words(self):
        for case in random_cases(60, 10 ** 9, 51) + wide_cases(10, 100, 52):
            before = repr(case)
            self.assertEqual(show_case(case), plain_text(case))
            self.assertEqual(repr(case), before)

    def test_by_name(self):
        self.assertEqual(show_case(case=case_of((None,), (HALVES,))), "member\nmark 1/2 1/2\n")


if __name__ == "__main__":
    unittest.main()
