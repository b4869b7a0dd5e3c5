"""Drivers: transports and talkers are led along runs, until they stand still or break a rule."""
