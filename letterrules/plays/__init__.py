"""Plays: what transports do, step by step."""
