"""The interface: what stands in which file, and the names of the arguments (point 6)."""

import importlib
import inspect
import unittest

FUNCTIONS = {
    "ratios": {
        "as_ratio": "given", "lesser": "one other", "greater": "one other", "total": "numbers",
        "raised": "number exponent",
    },
    "ahead": {
        "support": "records one other", "is_ahead": "records one other", "ahead_pairs": "records",
        "chain": "records one other", "ring": "records thing", "is_chain": "records value", "is_ring": "records value",
    },
    "batches": {
        "batches": "records", "fair_order": "records", "is_order": "records value", "is_fair": "records order",
        "is_finest": "records order", "count_orders": "records", "against": "records order",
        "merged": "records one other", "before": "records one other",
    },
    "rings": {
        "lots": "weights share count", "is_parting": "weights share count value", "least_ring": "weights share",
        "ring_rows": "weights share things", "can_be_batch": "weights share count", "ring_share": "weights count",
    },
    "liars": {
        "is_lie": "records liars other", "can_put": "records liars one other", "can_keep": "records liars one other",
        "can_lead": "records liars one other", "leading": "records liars one other",
        "can_bar": "records liars one other", "can_part": "records liars one other",
        "barring": "records liars one other", "parting": "records liars one other",
        "least_lot": "records wish one other",
    },
    "ringliars": {
        "can_ring": "records liars things", "ringing": "records liars things",
        "joining_ring": "records liars one other most", "least_ringers": "records things",
    },
    "unsure": {
        "surely_ahead": "records weight one other", "may_be_ahead": "records weight one other",
        "surely_before": "records weight one other", "may_be_before": "records weight one other",
        "doubt": "records weight one other", "firmness": "records one other", "sure_batches": "records weight",
        "sure_order": "records weight order",
    },
}


class InterfaceTest(unittest.TestCase):
    def test_functions(self):
        for file, functions in FUNCTIONS.items():
            module = importlib.import_module("fairbatches." + file)
            for name, wanted in functions.items():
                with self.subTest(file=file, name=name):
                    function = getattr(module, name)
                    self.assertEqual(function.__module__, module.__name__)
                    found = inspect.signature(function).parameters.values()
                    self.assertEqual([parameter.name for parameter in found], wanted.split())
                    for parameter in found:
                        self.assertIs(parameter.kind, inspect.Parameter.POSITIONAL_OR_KEYWORD)
                        self.assertIs(parameter.default, inspect.Parameter.empty)
