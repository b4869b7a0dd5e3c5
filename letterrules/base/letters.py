"""Names, events and letters."""

from letterrules.base.values import is_integer
from letterrules.errors import InvalidName, InvalidNumber

ALPHABET = "abcdefghijklmnopqrstuvwxyz"
LONGEST_NAME = 8
MOST_NAMES = 500


def is_name(value):
    """Return whether a value is a name: one to eight letters a to z."""
    if not isinstance(value, str) or not 1 <= len(value) <= LONGEST_NAME:
        return False
    return value.isascii() and value.isalpha() and value.islower()


def is_event(value):
    """Return whether a value is the sending or the reading of a letter."""
    if not isinstance(value, tuple) or len(value) != 2:
        return False
    return value[0] in ("send", "read") and is_name(value[1])


def is_letter(value):
    """Return whether a value is a triple of a kind, a sender and another process as reader."""
    if not isinstance(value, tuple) or len(value) != 3:
        return False
    return are_names(value) and value[1] != value[2]


def are_names(value):
    """Return whether a value is a tuple of names."""
    return isinstance(value, tuple) and all([is_name(part) for part in value])


def turned_event(event):
    """Return the other event of the same letter; the event is not checked."""
    word, name = event
    return ("read" if word == "send" else "send", name)


def other_event(event):
    """Return the reading for a sending, the sending for a reading."""
    if not is_event(event):
        raise InvalidName("this is not an event")
    return turned_event(event)


def _name_at(number):
    """Return the name with this number in the order a, b, .., z, aa, ab, .."""
    name = ""
    left = number + 1
    while left > 0:
        left, digit = divmod(left - 1, len(ALPHABET))
        name = ALPHABET[digit] + name
    return name


def new_names(many, *, without=()):
    """Return the first so many names that are not among some others."""
    if not is_integer(many) or not 0 <= many <= MOST_NAMES:
        raise InvalidNumber(many)
    if not are_names(without):
        raise InvalidName("these are not names in a tuple")
    taken = {name: True for name in without}
    names = []
    number = 0
    while len(names) < many:
        name = _name_at(number)
        if name not in taken:
            names.append(name)
        number += 1
    return tuple(names)
