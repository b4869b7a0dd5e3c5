"""Texts of patterns, rules, runs, markings, placings and steps."""
