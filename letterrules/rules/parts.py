"""What a pattern is made of: looked at, and brought into ascending order."""

from letterrules.base.letters import is_event, is_name, turned_event
from letterrules.base.values import are_different
from letterrules.errors import InvalidPattern

MAX_PATTERN_LETTERS = 5
MAX_KINDS = 4
MAX_GROUP = 4


def is_event_of(letters, value):
    """Return whether a value is an event of one of these letters."""
    return is_event(value) and value[1] in letters


def _are_events(letters, value):
    """Return whether a value is a tuple of events of these letters."""
    return isinstance(value, tuple) and all([is_event_of(letters, part) for part in value])


def _kept_kinds(kinds):
    """Return the kinds of a letter, ascending, or None for any kind."""
    if kinds is None:
        return None
    if not isinstance(kinds, tuple) or not all([is_name(kind) for kind in kinds]) or "other" in kinds:
        raise InvalidPattern("the kinds of a letter are no kinds that a pattern can name")
    kept = tuple(sorted(set(kinds)))
    if not 1 <= len(kept) <= MAX_KINDS:
        raise InvalidPattern("a letter has no kinds, or too many of them")
    return kept


def _kept_letters(letters):
    """Return the kinds by the names of letters, ascending."""
    if not isinstance(letters, dict) or not all([is_name(name) for name in letters]):
        raise InvalidPattern("the letters are not kinds by names")
    if not 1 <= len(letters) <= MAX_PATTERN_LETTERS:
        raise InvalidPattern("there are no letters, or too many of them")
    return {name: _kept_kinds(letters[name]) for name in sorted(letters)}


def _kept_conditions(letters, conditions):
    """Return the conditions, ascending."""
    if not isinstance(conditions, tuple) or not all([_are_events(letters, pair) for pair in conditions]):
        raise InvalidPattern("the conditions are not pairs of events in a tuple")
    if not all([len(pair) == 2 for pair in conditions]):
        raise InvalidPattern("a condition is not a pair of events")
    return tuple(sorted(set(conditions)))


def _kept_groups(letters, groups):
    """Return the groups of two and more events, ascending."""
    if not isinstance(groups, tuple) or not all([_are_events(letters, group) for group in groups]):
        raise InvalidPattern("the groups are not tuples of events in a tuple")
    rows = [tuple(sorted(set(group))) for group in groups]
    kept = tuple(sorted({row for row in rows if len(row) > 1}))
    events = [event for group in kept for event in group]
    if not are_different(events):
        raise InvalidPattern("two groups share an event")
    if not all([len(group) <= MAX_GROUP for group in kept]):
        raise InvalidPattern("a group has too many events")
    if any([turned_event(event) in group for group in kept for event in group]):
        raise InvalidPattern("a group has both events of one letter")
    return kept


def many_arrangements(groups):
    """Return how many arrangements a pattern with these groups has."""
    many = 1
    for group in groups:
        for at in range(len(group)):
            many = many * (at + 1)
    return many


def kept_parts(letters, conditions, groups):
    """Return the letters, the conditions and the groups of a pattern, as it keeps them."""
    kinds_by_name = _kept_letters(letters)
    return kinds_by_name, _kept_conditions(kinds_by_name, conditions), _kept_groups(kinds_by_name, groups)
