"""The interface: what stands in which file, and the names of the arguments (point 6)."""

import importlib
import inspect
import unittest

FUNCTIONS = {
    "ratios": {
        "as_ratio": "given", "lesser": "one other", "greater": "one other", "total": "numbers",
        "raised": "number exponent",
    },
    "ahead": {
        "support": "records one other", "is_ahead": "records one other", "ahead_pairs": "records",
        "chain": "records one other", "ring": "records thing", "is_chain": "records value", "is_ring": "records value",
    },
    "batches": {
        "batches": "records", "fair_order": "records", "is_order": "records value", "is_fair": "records order",
        "is_finest": "records order", "count_orders": "records", "against": "records order",
        "merged": "records one other", "before": "records one other",
    },
    "rings": {
        "lots": "weights share count", "is_parting": "weights share count value", "least_ring": "weights share",
        "ring_rows": "weights share things", "can_be_batch": "weights share count", "ring_share": "weights count",
    },
}


class InterfaceTest(unittest.TestCase):
    def test_functions(self):
        for file, functions in FUNCTIONS.items():
            module = importlib.import_module("fairbatches." + file)
            for name, wanted in functions.items():
                with self.subTest(file=file, name=name):
                    function = getattr(module, name)
                    self.assertEqual(function.__module__, module.__name__)
                    found = inspect.signature(function).parameters.values()
                    self.assertEqual([parameter.name for parameter in found], wanted.split())
                    for parameter in found:
                        self.assertIs(parameter.kind, inspect.Parameter.POSITIONAL_OR_KEYWORD)
                        self.assertIs(parameter.default, inspect.Parameter.empty)
