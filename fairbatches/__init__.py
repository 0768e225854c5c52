"""Fairbatches: one fair order out of many rows."""
