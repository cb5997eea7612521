"""Names, arguments and default values, as the interface writes them."""

import importlib
import inspect
import unittest

SIGNATURES = {
    "shares": [
        "is_share(thing)", "share_of(top, bottom=1)", "plus(share, other)", "less(share, other)",
        "times(share, other)", "over(share, other)", "is_less(share, other)", "total(shares)", "product(shares)",
    ],
    "families": ["is_family(thing)", "founders(family)", "elder(family, member, side)"],
    "lines": ["is_line(thing)"],
}


class InterfaceTest(unittest.TestCase):
    def test_signatures(self):
        for module, wanted in SIGNATURES.items():
            loaded = importlib.import_module("crossmarks." + module)
            for row in wanted:
                name = row.partition("(")[0]
                self.assertEqual(name + str(inspect.signature(getattr(loaded, name))), row)


if __name__ == "__main__":
    unittest.main()
