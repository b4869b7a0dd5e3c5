"""Watchers: when a rule is surely broken."""
