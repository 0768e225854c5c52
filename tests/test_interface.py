"""The interface: what stands in which file, and the names of the arguments (point 6)."""

import importlib
import inspect
import unittest

from fairbatches.ratios import Ratio

FUNCTIONS = {
    "ratios": {
        "as_ratio": "given", "lesser": "one other", "greater": "one other", "total": "numbers",
        "raised": "number exponent",
    },
    "ahead": {
        "support": "records one other", "is_ahead": "records one other", "ahead_pairs": "records",
        "chain": "records one other", "ring": "records thing", "is_chain": "records value", "is_ring": "records value",
    },
    "batches": {
        "batches": "records", "fair_order": "records", "is_order": "records value", "is_fair": "records order",
        "is_finest": "records order", "count_orders": "records", "against": "records order",
        "merged": "records one other", "before": "records one other",
    },
    "rings": {
        "lots": "weights share count", "is_parting": "weights share count value", "least_ring": "weights share",
        "ring_rows": "weights share things", "can_be_batch": "weights share count", "ring_share": "weights count",
    },
    "liars": {
        "is_lie": "records liars other", "can_put": "records liars one other", "can_keep": "records liars one other",
        "can_lead": "records liars one other", "leading": "records liars one other",
        "can_bar": "records liars one other", "can_part": "records liars one other",
        "barring": "records liars one other", "parting": "records liars one other",
        "least_lot": "records wish one other",
    },
    "ringliars": {
        "can_ring": "records liars things", "ringing": "records liars things",
        "joining_ring": "records liars one other most", "least_ringers": "records things",
    },
    "unsure": {
        "surely_ahead": "records weight one other", "may_be_ahead": "records weight one other",
        "surely_before": "records weight one other", "may_be_before": "records weight one other",
        "doubt": "records weight one other", "firmness": "records one other", "sure_batches": "records weight",
        "sure_order": "records weight order",
    },
    "growing": {
        "threatens": "records one other", "open_to_strangers": "records thing", "can_give": "records things",
        "ready": "records", "threat": "records thing", "is_threat": "records thing value", "grown": "records one other",
        "is_grown": "records other", "first_given": "records",
    },
    "shares": {
        "lead_share": "records one other", "merge_share": "records one other", "split_shares": "records",
        "batch_share": "records things", "unfairness": "records order",
    },
    "delays": {
        "fits_times": "records delay times", "moments": "records delay times", "span": "records delay one other",
        "latest": "records delay one other", "batch_spans": "records delay",
    },
}
METHODS = {
    ("ratios", "Ratio"): {
        "__init__": "top bottom", "read": "text", "__add__": "other", "__sub__": "other", "__mul__": "other",
        "__neg__": "", "__eq__": "other", "__lt__": "other", "__le__": "other", "over": "number", "text": "",
    },
    ("records", "Records"): {
        "__init__": "weights share rows", "read": "text", "text": "", "recorders": "", "things": "", "row": "recorder",
        "weight": "recorder", "whole": "", "share": "", "weight_of": "recorders", "__eq__": "other",
        "seen": "recorder thing", "with_row": "recorder row", "with_share": "share", "without": "recorder",
    },
    ("house", "House"): {
        "__init__": "weights share", "see": "recorder thing", "give": "", "strike": "recorder", "records": "",
        "__len__": "", "order": "", "waiting": "", "wrong": "", "undo": "", "redo": "", "tried": "act", "text": "",
        "take": "text",
    },
}


class InterfaceTest(unittest.TestCase):
    def test_functions(self):
        for file, functions in FUNCTIONS.items():
            module = importlib.import_module("fairbatches." + file)
            for name, wanted in functions.items():
                with self.subTest(file=file, name=name):
                    function = getattr(module, name)
                    self.assertEqual(function.__module__, module.__name__)
                    found = inspect.signature(function).parameters.values()
                    self.assertEqual([parameter.name for parameter in found], wanted.split())
                    for parameter in found:
                        self.assertIs(parameter.kind, inspect.Parameter.POSITIONAL_OR_KEYWORD)
                        self.assertIs(parameter.default, inspect.Parameter.empty)

    def test_methods(self):
        for (file, name), methods in METHODS.items():
            module = importlib.import_module("fairbatches." + file)
            found = getattr(module, name)
            self.assertEqual(found.__module__, module.__name__)
            for method, wanted in methods.items():
                with self.subTest(file=file, name=name, method=method):
                    # The class itself must have it, and not only a base class.
                    function = vars(found)[method]
                    plain = function.__func__ if isinstance(function, classmethod) else function
                    self.assertEqual(list(inspect.signature(plain).parameters)[1:], wanted.split())

    def test_properties(self):
        for name in ("top", "bottom"):
            self.assertIsInstance(vars(Ratio)[name], property)
