"""Patterns, rules, and the runs that break them."""
