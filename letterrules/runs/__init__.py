"""Runs, and the four sets of them."""
