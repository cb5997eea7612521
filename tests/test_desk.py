"""Point 25: a desk."""

import itertools
import random
import unittest

from crossmarks.carrying import carries
from crossmarks.cases import case_of
from crossmarks.desk import Desk
from crossmarks.errors import CrossError, NoCase, NoText, NoThing
from crossmarks.keep import Keep
from crossmarks.lots import least_lot
from crossmarks.peeling import peeled
from crossmarks.states import full_sum
from crossmarks.texts import show_case, show_share
from tests.keeping import changed, random_deed
from tests.samples import HALVES, THIRDS, THREE, bare, random_cases, ways, wide_cases
from tests.support import Checks, whatever
from tests.unfit import SPLIT, pressed_cases, unfit_cases

LOW, HET, HIGH = ((0, 0),), ((0, 1),), ((1, 1),)
TRIO = (None, None, (0, 1))
FIRST = case_of((None,), (HALVES,))
TRIO_TEXT = "member\nmember\nmember 0 1\nmark 1/3 2/3\nseen 2 0 0:1\n"
LINKED = case_of(TRIO, (THIRDS, THREE), gaps=((1, 10),), seen=((0, 0, LOW + HET), (2, 1, ((0, 2),))))


def said(word, given):
    """The line that tells a deed."""
    if word == "see":
        return " ".join(["see", str(given[0]), str(given[1])] + [f"{x}:{y}" for x, y in given[2]])
    if word == "gap":
        return f"gap {given[0]} {show_share(given[1])}"
    return f"{word} {given[0]} {given[1]}"


def with_case(case):
    desk = Desk()
    desk.say("case\n" + show_case(case))
    return desk


def wrong_lines():
    """Lines that no desk knows."""
    lines = [
        "", " ", "\n", "case", "case ", "case\t", "CASE\n" + TRIO_TEXT, "case \n" + TRIO_TEXT, " case\n" + TRIO_TEXT,
        "\ncase\n" + TRIO_TEXT, "case member", "cases\n" + TRIO_TEXT, "weigh", "Weight", "WEIGHT", "weights", "stands",
        "order", "help", "ok", "none", "refused", "see", "see 0", "see 0 0", "see 0 0 ", "see 0 0:0", "see 0 0 0", "see 0 0 0:",
        "see 0 0 :0", "see 0 0 :", "see 0 0 0:0:0", "see 0 0 0:0 1", "see 0 0 0:0 :1", "see 0 0 0:-1", "see 0 0 -0:1",
        "see 0 0 +0:1", "see 0 0 00:1", "see 0 0 0:01", "see 00 0 0:0", "see 0 00 0:0", "see 01 0 0:0", "see -1 0 0:0",
        "see +1 0 0:0", "see 0 -1 0:0", "see a 0 0:0", "see 0 a 0:0", "see 0 0 a:0", "see 0 0 0:a", "see 0 0 0/0",
        "see 1000000000000 0 0:0", "see 0 1000000000000 0:0", "see 0 0 0:1000000000000", "see 0 0 1000000000000:0",
        "see 0 0 0 :0", "see 0 0 0: 0", "see 0 0 0.0", "see 0/1 0 0:0", "forget", "forget 0", "forget 0 0 0",
        "forget 0:0", "forget 00 0", "forget 0 00", "forget -1 0", "forget 0 -0", "forget a b", "forget 1000000000000 0",
        "forget 0 1/2", "gap", "gap 0", "gap 1/2", "gap 0 1/2 0", "gap 0 2/4", "gap 0 1/1", "gap 0 0/1", "gap 0 1/0",
        "gap 0 1/-2", "gap 0 -0", "gap 0 00", "gap 0 01/2", "gap 0 1/02", "gap 0 +1/2", "gap 0 .5", "gap 0 1:2",
        "gap -1 1/2", "gap 00 1/2", "gap +0 1/2", "gap a 1/2", "gap 0 a", "gap 0 1/1000000000000",
        "gap 0 1000000000000", "gap 1000000000000 1/2", "gap 0 1 /2", "weight 0", "weight weight", "carries",
        "carries 0", "carries 0 0 0", "carries 00 0", "carries 0 00", "carries -1 0", "carries 0 -1", "carries a 0",
        "carries 0:0", "carries 0 1000000000000", "lot 0", "lot lot", "made 0", "room 0", "made made", "room room"]
    for line in ("weight", "lot", "made", "room", "carries 0 0", "see 0 0 0:0", "forget 0 0", "gap 0 1/3"):
        lines += [" " + line, line + " ", line + "\n", "\n" + line, line.replace(" ", "  ") + ("" if " " in line else "  ")]
        lines += [line.replace(" ", "\n") + "\n", line + "\nweight", line + " \n", line.upper(), line + ";", line + " x"]
    return lines


class WordsTest(Checks):
    def assert_says(self, desk, rows):
        for line, wanted in rows:
            self.assertEqual(desk.say(line), wanted, line)

    def test_as_it_begins(self):
        self.assert_says(Desk(), [
            ("made", "0"), ("room", "4"), ("weight", "1"), ("made", "1"), ("lot", "none"),
            ("carries 0 0", "0:0=1/4 0:1=1/2 1:1=1/4"), ("see 0 0 0:1", "ok"), ("weight", "1/2"), ("made", "2"),
            ("room", "2"), ("forget 0 0", "ok"), ("weight", "1"), ("gap 0 0", "refused NoCase"),
            ("see 1 0 0:0", "refused NoCase"), ("see 0 1 0:0", "refused NoCase"), ("see 0 0 0:2", "refused NoCase"),
            ("carries 1 0", "refused NoThing"), ("carries 0 1", "refused NoThing"), ("forget 0 0", "refused NoThing"),
            ("made", "3")])

    def test_word_for_word(self):
        self.assert_says(Desk(), [
            ("case\n" + TRIO_TEXT, "ok"), ("made", "0"), ("weight", "4/9"), ("made", "5"), ("weight", "4/9"), ("made", "5"),
            ("room", "16"), ("carries 0 0", "0:0=1/6 0:1=1/2 1:1=1/3"), ("carries 2 0", "0:1=1"), ("lot", "none"),
            ("see 0 0 0:0", "ok"), ("carries 1 0", "0:1=1/3 1:1=2/3"), ("weight", "2/27"), ("see 2 0 1:1", "ok"),
            ("weight", "0"), ("carries 0 0", "none"), ("carries 3 0", "refused NoThing"), ("lot", "0 1"),
            ("see 1 0 0:0 0:1", "ok"), ("lot", "0 2"), ("forget 0 0", "ok"), ("lot", "none"), ("weight", "4/27"),
            ("see 2 0 0:0 0:1 1:1", "ok"), ("weight", "5/9"), ("forget 1 0", "ok"), ("forget 1 0", "refused NoThing"),
            ("weight", "1"), ("case\nmember\nmark 1/2 1/2\n", "ok"), ("made", "0"), ("weight", "1"), ("made", "1")])

    def test_gaps(self):
        desk = with_case(LINKED)
        weight = desk.say("weight")
        self.assert_says(desk, [
            ("gap 0 1/10", "ok"), ("weight", weight), ("gap 0 0", "ok"), ("gap 0 1/2", "ok"), ("gap 0 2/3", "refused NoCase"),
            ("gap 0 -1/3", "refused NoCase"), ("gap 0 1", "refused NoCase"), ("gap 1 1/3", "refused NoCase"),
            ("gap 999999999999 1/3", "refused NoCase"), ("gap 0 999999999999", "refused NoCase"),
            ("gap 0 1/999999999999", "ok")])

    def test_a_lot_of_more_numbers(self):
        self.assertEqual(with_case(SPLIT).say("lot"), "0 1 2")

    def test_case_with_a_text(self):
        for case in random_cases(30, 2000, 91) + unfit_cases():
            desk = Desk()
            desk.say("weight")
            self.assert_says(desk, [
                ("case\n" + show_case(case), "ok"), ("made", "0"), ("weight", show_share(full_sum(case))),
                ("made", str(Keep(case).weight() and len(Keep(case).order()))),
                ("room", str(peeled(case, Keep(case).order())[1]))])

    def test_what_is_refused_of_a_case(self):
        for desk in (Desk(), with_case(LINKED)):
            desk.say("weight")
            before = self.all_told(desk)
            for text in (
                    "", "\n", "member", "member\n", "member\nmark 1/2 1/2", "member\nmark 1/2 1/3\n", TRIO_TEXT + "\n",
                    " " + TRIO_TEXT, "\n" + TRIO_TEXT, TRIO_TEXT + "weight", TRIO_TEXT + "seen 0 0 0:0\n", "weight", "case\n",
                    "case\n" + TRIO_TEXT, TRIO_TEXT.replace(" ", "  "), TRIO_TEXT * 2, "x"):
                self.assertEqual(desk.say("case\n" + text), "refused NoText")
                self.assertEqual(self.all_told(desk), before)

    def all_told(self, desk):
        """What a desk tells without making a table, then its weight and how many it made for that."""
        return [desk.say(line) for line in ("made", "room", "carries 0 0", "weight", "made")]

    def test_what_the_stages_refuse_changes_nothing(self):
        full = case_of(
            (None,) * 3, (HALVES,) * 3, gaps=((0, 1), (1, 3)),
            seen=[place + (LOW,) for place in itertools.product(range(3), range(3))][:8])
        for case, lines in (
                (LINKED, (
                    "see 3 0 0:0", "see 0 2 0:0", "see 0 0 0:2", "see 0 0 1:0", "see 0 0 0:1 0:0", "see 0 0 0:0 0:0",
                    "see 0 1 0:3", "see 999999999999 0 0:0", "see 0 0 0:999999999999", "gap 1 1/3", "gap 0 2/3",
                    "gap 0 -1", "forget 0 1", "forget 3 0", "forget 0 2", "forget 999999999999 0", "carries 3 0",
                    "carries 0 2", "carries 999999999999 999999999999")),
                (full, ("see 2 2 0:0", "forget 2 2", "gap 2 0"))):
            for asked in (False, True):
                desk, same = with_case(case), with_case(case)
                if asked:
                    desk.say("weight"), same.say("weight")
                for line in lines:
                    wanted = "refused NoCase" if line[0] in "sg" else "refused NoThing"
                    self.assertEqual(desk.say(line), wanted)
                    self.assertEqual(desk.say("made"), same.say("made"))
                self.assertEqual(self.all_told(desk), self.all_told(same))

    def test_any_other_line(self):
        for case in (FIRST, LINKED):
            desk, same = with_case(case), with_case(case)
            for line in wrong_lines():
                error = self.assert_refused(NoText, desk.say, line)
                self.assertIsInstance(error, CrossError)
                self.assertIsNone(error.at)
            self.assertEqual(self.all_told(desk), self.all_told(same))

    def test_what_is_no_text(self):
        desk = Desk()
        for thing in whatever() + [["weight"], ("weight",), {"weight": 1}, b"weight"]:
            self.assertIsNone(self.assert_refused(NoText, desk.say, thing).at)
        self.assertEqual(self.all_told(desk), self.all_told(Desk()))

    def test_asking_makes_no_tables(self):
        desk = with_case(LINKED)
        for line in ("carries 0 0", "lot", "room", "made", "see 0 0 0:0", "carries 2 1", "forget 0 0", "gap 0 0", "lot"):
            desk.say(line)
            self.assertEqual(desk.say("made"), "0")
        desk.say("weight")
        self.assertEqual(desk.say("made"), str(len(Keep(LINKED).order())))

    def test_two_desks_are_apart(self):
        desk, other = Desk(), Desk()
        desk.say("case\n" + TRIO_TEXT)
        desk.say("weight")
        self.assertEqual([other.say("weight"), other.say("made")], ["1", "1"])

    def test_by_name(self):
        self.assertEqual(Desk().say(text="weight"), "1")


class LedTest(Checks):
    def assert_like(self, desk, keep):
        """A desk tells what a keep led alike, and the stages, tell."""
        case = keep.case()
        self.assertEqual(desk.say("weight"), show_share(keep.weight()))
        self.assertEqual(desk.say("made"), str(keep.made()))
        self.assertEqual(desk.say("room"), str(peeled(case, keep.order())[1]))
        if ways(bare(case)) <= 2000:
            lot = least_lot(case)
            self.assertEqual(desk.say("lot"), "none" if lot is None else " ".join([str(number) for number in lot]))
        for member, mark in itertools.product(range(len(case[0])), range(len(case[1][0]))):
            wanted = "none"
            if full_sum(case) != (0, 1):
                rows = carries(case, member, mark)
                wanted = " ".join([f"{x}:{y}={show_share(share)}" for (x, y), share in rows])
            self.assertEqual(desk.say(f"carries {member} {mark}"), wanted)

    def lead(self, desk, keep, deed, given):
        """Does a deed to both; a desk answers for what a keep refuses."""
        wanted = "ok"
        try:
            getattr(keep, deed)(*given)
        except NoCase:
            wanted = "refused NoCase"
        except NoThing:
            wanted = "refused NoThing"
        self.assertEqual(desk.say(said(deed, given)), wanted)
        self.assertEqual(desk.say("made"), str(keep.made()))

    def test_led_as_a_keep(self):
        chance = random.Random(92)
        for case in random_cases(25, 400, 93) + wide_cases(6, 300, 94) + pressed_cases(10, 95):
            desk, keep = with_case(case), Keep(case)
            for _ in range(6):
                deed, given = random_deed(keep.case(), chance)
                other = changed(keep.case(), deed, given)
                if other is None or ways(other) <= max(1000, ways(keep.case())):
                    self.lead(desk, keep, deed, given)
                if chance.random() < 0.4:
                    self.assert_like(desk, keep)
            self.assert_like(desk, keep)


if __name__ == "__main__":
    unittest.main()
