"""The classes of refusals, as the interface lists them."""

import unittest

from crossmarks import errors

OWN = ("CrossError", "NoCase", "NoOrder", "NoWeight", "NoText", "NoShare", "NoThing")
ABOVE = {
    "CrossError": ValueError,
    "NoCase": errors.CrossError,
    "NoOrder": errors.CrossError,
    "NoWeight": errors.CrossError,
    "NoText": errors.CrossError,
    "NoShare": ZeroDivisionError,
    "NoThing": KeyError,
}


class ErrorsTest(unittest.TestCase):
    def test_each_stands_under_its_class(self):
        for name in OWN:
            self.assertEqual(getattr(errors, name).__bases__, (ABOVE[name],), name)

    def test_none_stands_under_another_of_the_package(self):
        for name in OWN:
            for other in OWN:
                under = issubclass(getattr(errors, name), getattr(errors, other))
                wanted = name == other or ABOVE[name] is getattr(errors, other)
                self.assertEqual(under, wanted, (name, other))

    def test_share_and_thing_are_no_cross_errors(self):
        self.assertFalse(issubclass(errors.NoShare, ValueError))
        self.assertFalse(issubclass(errors.NoThing, ValueError))

    def test_fields(self):
        for part in ("family", "line", "seen"):
            self.assertEqual(errors.NoCase(part).part, part)
            self.assertEqual(errors.NoCase(part=part).part, part)
        for number in (0, 7, None):
            self.assertEqual(errors.NoText(number).at, number)
            self.assertEqual(errors.NoText(at=number).at, number)
        for thing in (("pair", 0, 9), None, "a", [1], {}):
            self.assertEqual(errors.NoThing(thing).thing, thing)
            self.assertEqual(errors.NoThing(thing=thing).thing, thing)

    def test_a_field_is_needed(self):
        for kind in (errors.NoCase, errors.NoText, errors.NoThing):
            with self.assertRaises(TypeError):
                kind()

    def test_those_without_a_field_are_made_with_a_text(self):
        for kind in (errors.CrossError, errors.NoOrder, errors.NoWeight, errors.NoShare):
            self.assertEqual(str(kind("why not")), "why not")

    def test_they_are_raised_and_caught(self):
        with self.assertRaises(errors.CrossError):
            raise errors.NoCase("seen")
        with self.assertRaises(KeyError):
            raise errors.NoThing(("pair", 0, 0))
        with self.assertRaises(ZeroDivisionError):
            raise errors.NoShare("nought below")


if __name__ == "__main__":
    unittest.main()
