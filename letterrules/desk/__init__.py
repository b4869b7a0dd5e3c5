"""A desk that keeps rules, and a shell for it."""
