"""Own orders of patterns, and the runs that have them."""
