"""Names, arguments and default values, as the interface writes them."""

import importlib
import inspect
import unittest

SIGNATURES = {
    "shares": [
        "is_share(thing)", "share_of(top, bottom=1)", "plus(share, other)", "less(share, other)",
        "times(share, other)", "over(share, other)", "is_less(share, other)", "total(shares)", "product(shares)",
    ],
    "families": ["is_family(thing)", "founders(family)", "elder(family, member, side)"],
    "lines": ["is_line(thing)"],
    "cases": ["is_seen(family, line, thing)", "is_case(thing)", "case_of(family, marks, *, gaps=(), seen=())"],
    "things": ["things_of(case)", "values_of(case, thing)"],
    "states": ["state_weight(case, state)", "states_of(case)", "full_sum(case)"],
    "tables": [
        "is_table(thing)", "joined(table, other)", "summed_out(table, thing)", "held_at(table, thing, value)",
        "whole(table)",
    ],
    "casetables": ["tables_of(case)"],
    "peeling": ["peeled(case, order)"],
    "orders": ["need_order(case, thing)", "good_order(case)", "width(case, order)"],
    "holding": ["held_weight(case, held)", "summed_over(case, things)"],
    "lots": ["can_be(case, lot)", "least_lot(case)"],
    "refuting": ["against(case)", "lets_against(case, thing)"],
    "carrying": ["thing_shares(case, thing)", "carries(case, member, mark)", "expected(case, member, mark, kind)"],
    "likely": ["likeliest(case)", "within(case, *, share=(1, 1))"],
    "descent": ["comes_from(case, state, member, side, mark)", "same_share(case, member, other, mark)"],
    "fitting": ["weights_by(case, gap, shares)", "fitted(case, gap, shares)"],
    "far": [
        "far(share, other)", "far_along(shares)", "between(line, mark, mark2)", "near(share, other)",
        "without_mark(case, mark)",
    ],
    "columns": ["are_rows(thing)", "crossings(rows, order)", "best_orders(rows)"],
    "exchanges": ["exchanges_of(order)", "led(rows, order)"],
    "alike": ["first_unlike(case, other)"],
    "keep": ["Keep(case, order=None)"],
    "texts": ["show_share(share)", "show_case(case)"],
    "reader": ["read_share(text)", "read_case(text)"],
    "programs": ["is_program(thing)"],
    "walker": ["walked(case, program)"],
    "machine": ["run_by_peeling(case, program)"],
    "desk": ["Desk()"],
}
METHODS = {
    ("keep", "Keep"): [
        "weight(self)", "see(self, member, mark, pairs)", "forget(self, member, mark)", "gap(self, number, share)",
        "case(self)", "order(self)", "made(self)", "stands(self)", "__eq__(self, other)",
    ],
    ("desk", "Desk"): ["say(self, text)"],
}


class InterfaceTest(unittest.TestCase):
    def test_signatures(self):
        for module, wanted in SIGNATURES.items():
            loaded = importlib.import_module("crossmarks." + module)
            for row in wanted:
                name = row.partition("(")[0]
                self.assertEqual(name + str(inspect.signature(getattr(loaded, name))), row)

    def test_methods_stand_in_the_class_itself(self):
        for (module, name), wanted in METHODS.items():
            owner = getattr(importlib.import_module("crossmarks." + module), name)
            for row in wanted:
                method = row.partition("(")[0]
                self.assertEqual(method + str(inspect.signature(vars(owner)[method])), row)


if __name__ == "__main__":
    unittest.main()
