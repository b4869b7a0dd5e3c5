"""Looks at values, whatever they are."""


def is_integer(value):
    """Return whether a value is an integer; True and False are none."""
    return isinstance(value, int) and not isinstance(value, bool)


def are_different(values):
    """Return whether no two of some names, events or integers are equal."""
    return len(set(values)) == len(values)
