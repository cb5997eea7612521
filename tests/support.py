"""What several tests need: wrong things of all kinds, and changes to right ones."""

import copy
import unittest


def nested(kind, depth):
    """A thing of one kind in another, as deep as told."""
    thing = kind()
    for _ in range(depth - 1):
        if kind is dict:
            thing = {"a": thing}
        else:
            thing = kind([thing])
    return thing


def whatever():
    """Things of all plain kinds, none of which is a family, a line, a case, a share or a table."""
    return [
        None, True, False, 0, 1, -1, 5, 10 ** 99, -(10 ** 99),
        "", "a", "family", "pair", "0", "(0, 1)", "a\nb ~",
        [], {}, [None], [0, 1], [(0, 1)], {"a": 1}, {0: None, 1: None}, {0: (0, 1)}, {(0, 1): [()]},
        (True,), ("a",), ("pair",), ((),), ([],), ({},), ((None,),), (None, 0), (0, None), (None, "a"),
        (True, True), (False, True), ((0, 1),), ((), (), (), ()), (0, 1, 2), ("pair", 0, 0), ("turn", 1, 0, 0),
        nested(tuple, 30), nested(list, 30), nested(dict, 30), (nested(list, 29),) * 2, (nested(tuple, 29),) * 3,
        tuple(range(4999)), (None,) * 4999, ((),) * 2000, ["a"] * 4999, {number: None for number in range(2000)},
    ]


def places(thing, path=()):
    """The ways to all places of a thing, itself first."""
    found = [path]
    if isinstance(thing, (tuple, list)):
        for number, part in enumerate(thing):
            found.extend(places(part, path + (number,)))
    return found


def at(thing, path):
    for number in path:
        thing = thing[number]
    return thing


def put(thing, path, new):
    """The thing with another thing at a place."""
    if not path:
        return new
    parts = list(thing)
    parts[path[0]] = put(parts[path[0]], path[1:], new)
    return type(thing)(parts)


def of_other_kinds(thing):
    """The thing with one place, at any depth, of another kind, so that it is none whatever it was."""
    found = []
    for path in places(thing):
        part = at(thing, path)
        others = [{}, "", "a", [part], {0: part}, (part, part, part, part)]
        if isinstance(part, tuple):
            others += [list(part), dict(enumerate(part)), str(part), True, 0, part + ({},), ({},) + part]
        elif isinstance(part, list):
            others += [tuple(part), dict(enumerate(part)), str(part), None, True, 0, part + [{}], [{}] + part]
        elif part is None:
            others += [False, True, 0, [], (None,)]
        else:
            others += [str(part), (part,), None, [], (), True, False]
        found.extend([put(thing, path, other) for other in others if repr(other) != repr(part)])
    return found


class Checks(unittest.TestCase):
    """Checks that several tests make."""

    def assert_all_false(self, asked, things):
        for thing in things:
            before = copy.deepcopy(thing)
            self.assertIs(asked(thing), False, thing)
            self.assertEqual(repr(thing), repr(before))

    def assert_all_true(self, asked, things):
        for thing in things:
            before = repr(thing)
            self.assertIs(asked(thing), True, thing)
            self.assertEqual(repr(thing), before)

    def assert_refused(self, kind, deed, *given, **named):
        """The deed is refused with just this class; tells the error."""
        before = repr((given, named))
        with self.assertRaises(kind) as caught:
            deed(*given, **named)
        self.assertEqual(caught.exception.__class__, kind)
        self.assertEqual(repr((given, named)), before)
        return caught.exception
