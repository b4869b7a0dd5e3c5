"""Markings: what letters carry, what processes know by that, and the least markings that keep a rule."""
