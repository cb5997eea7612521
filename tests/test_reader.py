"""Point 23: what is written is read back, and any other text is refused."""

import itertools
import math
import random
import re
import unittest

from crossmarks.cases import case_of, is_case
from crossmarks.errors import CrossError, NoText
from crossmarks.reader import read_case, read_share
from crossmarks.texts import show_case, show_share
from tests.samples import HALVES, THIRDS, THREE, random_cases, wide_cases
from tests.support import Checks, whatever
from tests.test_texts import plain_text

NUMBER = r"(?:0|[1-9][0-9]{0,11})"
SIGNED = r"(?:0|-?[1-9][0-9]{0,11})"
SHARE = SIGNED + "(?:/" + NUMBER + ")?"
LINES = (
    re.compile("member(?: " + NUMBER + "){0,2}"), re.compile("mark(?: " + SHARE + ")+"),
    re.compile("gap " + SHARE), re.compile("seen " + NUMBER + " " + NUMBER + "(?: " + NUMBER + ":" + NUMBER + ")+"))
CASE = case_of(
    (None, None, (0, 1)), (THIRDS, THREE), gaps=((1, 10),),
    seen=((0, 0, ((0, 0), (1, 1))), (2, 0, ((0, 1),)), (2, 1, ((0, 2),))))
TEXT = (
    "member\nmember\nmember 0 1\nmark 1/3 2/3\nmark 1/2 1/3 1/6\ngap 1/10\n"
    "seen 0 0 0:0 1:1\nseen 2 0 0:1\nseen 2 1 0:2\n")


def plain_read_share(text):
    """The share that a text writes, None where it writes none, by the words of point 23."""
    if not re.fullmatch(SHARE, text):
        return None
    top, _, bottom = text.partition("/")
    if bottom in ("0", "1") or math.gcd(int(top), int(bottom or "1")) != 1:
        return None
    return (int(top), int(bottom or "1"))


def plain_read(lines):
    """The case that some lines write, None where they write none."""
    parts = ([], [], [], [])
    for line in lines:
        found = [number for number, form in enumerate(LINES) if form.fullmatch(line)]
        if not found:
            return None
        words = line.split(" ")[1:]
        if found[0] == 0:
            part = tuple([int(word) for word in words]) if words else None
        elif found[0] == 1:
            part = tuple([plain_read_share(word) for word in words])
        elif found[0] == 2:
            part = plain_read_share(words[0])
        else:
            pairs = [tuple([int(kind) for kind in word.split(":")]) for word in words[2:]]
            part = (int(words[0]), int(words[1]), tuple(pairs))
        parts[found[0]].append(part)
    members, marks, gaps, seen = [tuple(part) for part in parts]
    case = (members, (marks, gaps), seen)
    return case if is_case(case) and plain_text(case) == "".join([line + "\n" for line in lines]) else None


def begins(lines):
    """Whether some case begins by these lines: more marks and gaps make one of them."""
    for marks, gaps in itertools.product(range(4), range(3)):
        if plain_read(lines + ["mark 1/2 1/2"] * marks + ["gap 0"] * gaps) is not None:
            return True
    return False


def plain_at(text):
    """The number at which a text that writes no case is refused, by the words of point 23."""
    lines = text.split("\n")[:-1]
    for number in range(len(lines)):
        if not begins(lines[:number + 1]):
            return number
    return len(lines)


class ReadShareTest(Checks):
    def test_by_hand(self):
        for text, wanted in (
                ("0", (0, 1)), ("1", (1, 1)), ("-1", (-1, 1)), ("1/2", (1, 2)), ("-1/2", (-1, 2)), ("10/3", (10, 3)),
                ("7/10", (7, 10)), ("999999999999", (999999999999, 1)), ("-999999999999/5", (-999999999999, 5)),
                ("1/999999999999", (1, 999999999999)), ("100", (100, 1)), ("-20/9", (-20, 9))):
            self.assertEqual(read_share(text), wanted)
            self.assertEqual(show_share(wanted), text)

    def test_refused_by_hand(self):
        for text in (
                "", " ", "-", "/", "+1", "-0", "00", "01", "-01", "1/", "/2", "1/0", "0/1", "0/2", "1/1", "-1/1", "2/4",
                "1/-2", "-1/-2", "1/02", "01/2", "1//2", "1/2/3", "--1", " 1", "1 ", "1 /2", "1/ 2", "1/2 ", " 1/2",
                "1\n", "1/2\n", "\n1", "1/2\n1", "1000000000000", "-1000000000000", "1/1000000000000",
                "1000000000000/7", "0000000000001", "1.5", "0.5", "1e3", "1_0", "a", "1:2", "1/a", "a/2", "0x1", "1,0",
                "(1, 2)", "one", "-/2", "~", "1/+2", "0/-1", "-0/1", "9" * 100, "1/" + "9" * 100, "1" * 5000):
            self.assertIsNone(self.assert_refused(NoText, read_share, text).at)

    def test_all_short_texts(self):
        many = 0
        for size in range(6):
            for signs in itertools.product("0124/- ", repeat=size):
                text = "".join(signs)
                wanted = plain_read_share(text)
                if wanted is None:
                    with self.assertRaises(NoText):
                        read_share(text)
                else:
                    many += 1
                    self.assertEqual(read_share(text), wanted)
                    self.assertEqual(show_share(wanted), text)
        self.assertGreater(many, 200)

    def test_read_back(self):
        chance = random.Random(71)
        for _ in range(300):
            top, bottom = chance.randrange(-10 ** 12 + 1, 10 ** 12), chance.randrange(1, 10 ** chance.randrange(1, 13))
            divisor = math.gcd(top, bottom)
            share = (top // divisor, bottom // divisor)
            self.assertEqual(read_share(show_share(share)), share)

    def test_no_text(self):
        for thing in [thing for thing in whatever() if thing != "0"] + [(1, 2), ["1/2"], ("1", "2"), {"1/2": 1}, b"1/2"]:
            error = self.assert_refused(NoText, read_share, thing)
            self.assertIsInstance(error, CrossError)
            self.assertIsNone(error.at)

    def test_by_name(self):
        self.assertEqual(read_share(text="1/2"), (1, 2))


class ReadCaseTest(Checks):
    def assert_at(self, text, at):
        self.assertEqual(self.assert_refused(NoText, read_case, text).at, at, text)

    def test_by_hand(self):
        self.assertEqual(read_case("member\nmark 1/2 1/2\n"), case_of((None,), (HALVES,)))
        self.assertEqual(read_case(TEXT), CASE)
        self.assertEqual(show_case(CASE), TEXT)

    def test_read_back(self):
        for case in random_cases(80, 10 ** 9, 72) + wide_cases(10, 100, 73):
            self.assertEqual(repr(read_case(show_case(case))), repr(case))

    def test_numbers_of_twelve_figures(self):
        text = "member\nmark 1/999999999999 999999999998/999999999999\n"
        self.assertEqual(read_case(text), case_of((None,), (((1, 999999999999), (999999999998, 999999999999)),)))
        self.assert_at("member\nmark 1/1000000000000 999999999999/1000000000000\n", 1)

    def test_lines_that_make_no_case(self):
        self.assert_at("", 0)
        self.assert_at("member\n", 1)
        self.assert_at("member\nmember\n", 2)
        self.assert_at("member\nmark 1/2 1/2\nmark 1/2 1/2\n", 3)
        self.assert_at("member\nmark 1/2 1/2\nmark 1/2 1/2\nmark 1/2 1/2\ngap 0\n", 5)

    def test_a_last_line_without_its_end(self):
        self.assert_at("member", 0)
        self.assert_at("member\nmark 1/2 1/2", 1)
        self.assert_at("member\nmark 1/2 1/2\nseen 0 0 0:0", 2)
        self.assert_at("member\nmark 1/2 1/2\n ", 2)
        self.assert_at("member\nmark 1/2 1/2\nx", 2)
        self.assert_at("x\nmark 1/2 1/2\nseen 0 0 0:0", 0)
        self.assert_at(TEXT[:-1], 8)
        self.assert_at(TEXT + "seen", 9)

    def test_wrong_lines_by_hand(self):
        head = "member\nmember\nmember 0 1\nmark 1/2 1/2\nmark 1/2 1/3 1/6\ngap 1/10\n"
        for text, at in (
                ("\n", 0), ("\n" + TEXT, 0), (TEXT + "\n", 9), (" member\n", 0), ("member \n", 0), ("Member\n", 0),
                ("mark 1/2 1/2\n", 0), ("gap 0\n", 0), ("seen 0 0 0:0\n", 0), ("member 0 1\n", 0),
                ("member\nmember 0 0\n", 1), ("member\nmember 0 1\n", 1), ("member\nmember\nmember 0 2\n", 2),
                ("member\nmember\nmember 0\n", 2), ("member\nmember\nmember 0 1 0\n", 2),
                ("member\nmember\nmember 0  1\n", 2), ("member\nmember\nmember 00 1\n", 2),
                ("member\nmember\nmember -0 1\n", 2), ("member\nmember\nmember +0 1\n", 2),
                ("member\nmember\nmember 0 -1\n", 2), ("member\n" * 6, 5), ("member\n" * 5 + "mark 1/2 1/2\nmember\n", 6),
                ("member\nmark\n", 1), ("member\nmark 1\n", 1), ("member\nmark 1/2 1/3\n", 1),
                ("member\nmark 1 0\n", 1), ("member\nmark 3/2 -1/2\n", 1), ("member\nmark 2/4 1/2\n", 1),
                ("member\nmark 1/4 1/4 1/4 1/4\n", 1), ("member\nmark 1/2  1/2\n", 1), ("member\nmark 1/2 1/2 \n", 1),
                ("member\n" + "mark 1/2 1/2\n" * 4, 4), ("member\nmark 1/2 1/2\ngap 0\n", 2),
                ("member\nmark 1/2 1/2\nmark 1/2 1/2\ngap 0\ngap 0\n", 4),
                ("member\nmark 1/2 1/2\nmark 1/2 1/2\ngap 0\nmark 1/2 1/2\n", 4),
                ("member\nmark 1/2 1/2\nmark 1/2 1/2\ngap 2/3\n", 3), ("member\nmark 1/2 1/2\nmark 1/2 1/2\ngap -1/3\n", 3),
                ("member\nmark 1/2 1/2\nmark 1/2 1/2\ngap\n", 3), ("member\nmark 1/2 1/2\nmark 1/2 1/2\ngap 0 0\n", 3),
                ("member\nmark 1/2 1/2\nmark 1/2 1/2\nseen 0 0 0:0\n", 3),
                ("member\nmark 1/2 1/2\nseen 0 0 0:0\nmark 1/2 1/2\n", 3),
                ("member\nmark 1/2 1/2\nseen 0 0 0:0\nmember\n", 3), ("member\nmark 1/2 1/2\nseen 0 0 0:0\ngap 0\n", 3),
                (head + "seen 0 0\n", 6), (head + "seen 0\n", 6), (head + "seen\n", 6), (head + "seen 3 0 0:0\n", 6),
                (head + "seen 0 2 0:0\n", 6), (head + "seen 0 0 1:0\n", 6), (head + "seen 0 0 0:2\n", 6),
                (head + "seen 0 0 0:1 0:0\n", 6), (head + "seen 0 0 0:1 0:1\n", 6), (head + "seen 0 0 0:0:0\n", 6),
                (head + "seen 0 0 0\n", 6), (head + "seen 0 0 :0\n", 6), (head + "seen 0 0 0:\n", 6),
                (head + "seen 0 0 0 :0\n", 6), (head + "seen -0 0 0:0\n", 6), (head + "seen 0 0 00:0\n", 6),
                (head + "seen 0 0 0:0 \n", 6), (head + "seen 0 1 0:0\nseen 0 0 0:0\n", 7),
                (head + "seen 0 1 0:0\nseen 0 1 0:1\n", 7), (head + "seen 0 1 0:0\nseen 0 1 0:0\n", 7),
                (head + "seen 1 0 0:0\ngap 1/10\n", 7), (head + "see 0 0 0:0\n", 6), (head + "seen\t0 0 0:0\n", 6)):
            self.assert_at(text, at)
            self.assertEqual(plain_at(text), at, text)

    def test_a_ninth_seen(self):
        head = "member\n" * 3 + "mark 1/2 1/2\n" * 3 + "gap 0\n" * 2
        rows = [f"seen {member} {mark} 0:0\n" for member in range(3) for mark in range(3)]
        self.assertEqual(len(read_case(head + "".join(rows[:8]))[2]), 8)
        self.assert_at(head + "".join(rows), 16)

    def assert_as_told(self, text):
        """A text is read, or refused, as point 23 has it."""
        case = plain_read(text.split("\n")[:-1]) if text.endswith("\n") else None
        if case is not None:
            self.assertEqual(read_case(text), case)
        else:
            self.assert_at(text, plain_at(text))
        return case is not None

    def test_lines_left_out_twice_and_exchanged(self):
        found = []
        for case in [CASE] + random_cases(12, 10 ** 9, 74):
            lines = show_case(case).split("\n")[:-1]
            texts = [lines[:at] + lines[at + 1:] for at in range(len(lines))]
            texts += [lines[:at + 1] + lines[at:] for at in range(len(lines))]
            for one, other in itertools.combinations(range(len(lines)), 2):
                texts.append(list(lines))
                texts[-1][one], texts[-1][other] = lines[other], lines[one]
            found += [self.assert_as_told("".join([line + "\n" for line in rows])) for rows in texts]
        self.assertIn(True, found)
        self.assertIn(False, found)

    def test_lines_otherwise(self):
        for case in [CASE] + random_cases(5, 10 ** 9, 75):
            lines = show_case(case).split("\n")[:-1]
            for at, line in enumerate(lines):
                words = line.split(" ")
                others = [line + " ", " " + line, line.replace(" ", "  "), line + " 0", line + " 1/2", line + " 0:1", ""]
                others += [" ".join(words[:-1]), line.upper(), line + "\n", line.replace("/", ":"), line.replace(":", "/")]
                others += [" ".join([word] + words[1:]) for word in ("member", "mark", "gap", "seen", "case", "", "0")]
                for place in range(1, len(words)):
                    for word in ("0", "1", "2", "3", "-1", "1/2", "1/3", "0:0", "1:1", "2:2", "01", "x", "", "2/4"):
                        others.append(" ".join(words[:place] + [word] + words[place + 1:]))
                    others.append(" ".join(words[:place] + words[place:][::-1]))
                for other in others:
                    rows = lines[:at] + [other] + lines[at + 1:]
                    self.assert_as_told("".join([row + "\n" for row in rows]))

    def test_each_beginning(self):
        for case in [CASE] + random_cases(6, 10 ** 9, 76):
            text = show_case(case)
            for size in range(len(text) + 1):
                self.assert_as_told(text[:size])

    def test_no_text(self):
        things = [thing for thing in whatever() if not isinstance(thing, str)]
        for thing in things + [CASE, [TEXT], (TEXT,), {TEXT: TEXT}, TEXT.encode()]:
            error = self.assert_refused(NoText, read_case, thing)
            self.assertIsInstance(error, CrossError)
            self.assertIsNone(error.at)
        for text in [thing for thing in whatever() if isinstance(thing, str)]:
            self.assert_at(text, 0)

    def test_by_name(self):
        self.assertEqual(read_case(text=TEXT), CASE)


if __name__ == "__main__":
    unittest.main()
