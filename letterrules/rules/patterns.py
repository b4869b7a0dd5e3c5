"""Patterns of letters, and the rules that forbid them."""

from letterrules.base.letters import is_event, is_name
from letterrules.base.renaming import refuse_unknown, renamed_event, with_others
from letterrules.base.values import are_different, is_integer
from letterrules.errors import InvalidNumber, InvalidOperation, InvalidPattern, InvalidRule, UnknownName
from letterrules.rules.parts import kept_parts, many_arrangements

MAX_ARRANGEMENTS = 600
MAX_RULE = 6
PARAMETERS = ("self", "conditions", "groups")


def check_pattern(pattern):
    """Refuse what is not a pattern."""
    if not isinstance(pattern, Pattern):
        raise InvalidPattern("this is not a pattern")


def check_rule(rule):
    """Refuse what is not a rule."""
    if not isinstance(rule, Rule):
        raise InvalidRule("this is not a rule")


def _can_be_keywords(letters):
    """Return whether a value is a dict that can be passed as the keywords of a pattern's letters."""
    if not isinstance(letters, dict) or not all([isinstance(name, str) for name in letters]):
        return False
    return not any([name in letters for name in PARAMETERS])


def _parts_of(letters, conditions, groups):
    """Return the three parts of a pattern, as it keeps them; refuse those of which there is no pattern."""
    parts = kept_parts(letters, conditions, groups)
    if many_arrangements(parts[2]) > MAX_ARRANGEMENTS:
        raise InvalidPattern("there are too many arrangements")
    return parts


def _with_names(rows, names):
    """Return tuples of events with the new names of all letters."""
    return tuple([tuple([renamed_event(event, names) for event in row]) for row in rows])


class Pattern:
    """Letters with kinds, conditions on their events, and groups of events. A pattern never changes."""

    def __init__(self, *, conditions=(), groups=(), **letters):
        self._letters, self._conditions, self._groups = _parts_of(letters, conditions, groups)

    @classmethod
    def of(cls, letters, conditions, groups):
        """Return the pattern with these letters, a dict, and these conditions and groups."""
        if not _can_be_keywords(letters):
            return TakenPattern(letters, conditions, groups)
        keywords = {**letters, "conditions": conditions, "groups": groups}
        return Pattern(**keywords)

    @property
    def letters(self):
        """The kinds of each letter, or None, by its name."""
        return dict(self._letters)

    @property
    def conditions(self):
        """The conditions, ascending."""
        return self._conditions

    @property
    def groups(self):
        """The groups, ascending."""
        return self._groups

    @property
    def kinds(self):
        """All kinds that are told, ascending."""
        told = [kinds for kinds in self._letters.values() if kinds is not None]
        return tuple(sorted({kind for kinds in told for kind in kinds}))

    def with_letter(self, name, *kinds):
        """Return the pattern with one letter more, or with other kinds for it."""
        if not is_name(name):
            raise InvalidPattern("this is not a name")
        return Pattern.of({**self._letters, name: kinds if kinds else None}, self._conditions, self._groups)

    def without_letter(self, letter):
        """Return the pattern without a letter, its conditions and its events."""
        if not is_name(letter) or letter not in self._letters:
            raise UnknownName(letter)
        letters = {name: kinds for name, kinds in self._letters.items() if name != letter}
        conditions = [pair for pair in self._conditions if letter not in (pair[0][1], pair[1][1])]
        groups = [tuple([event for event in group if event[1] != letter]) for group in self._groups]
        return Pattern.of(letters, tuple(conditions), tuple(groups))

    def with_condition(self, event, other):
        """Return the pattern with one condition more."""
        self._check_events((event, other))
        return Pattern.of(self._letters, (*self._conditions, (event, other)), self._groups)

    def without_condition(self, event, other):
        """Return the pattern without a condition."""
        self._check_events((event, other))
        if (event, other) not in self._conditions:
            raise InvalidOperation("the pattern does not have this condition")
        conditions = [pair for pair in self._conditions if pair != (event, other)]
        return Pattern.of(self._letters, tuple(conditions), self._groups)

    def with_group(self, *events):
        """Return the pattern in which these events and all groups with one of them are one group."""
        self._check_events(events)
        joined = [group for group in self._groups if any([event in events for event in group])]
        others = [group for group in self._groups if group not in joined]
        whole = tuple([event for group in (*joined, events) for event in group])
        return Pattern.of(self._letters, self._conditions, (*others, whole))

    def without_group(self, event):
        """Return the pattern without the group of an event."""
        self._check_events((event,))
        groups = [group for group in self._groups if event not in group]
        if len(groups) == len(self._groups):
            raise InvalidOperation("the event is in no group")
        return Pattern.of(self._letters, self._conditions, tuple(groups))

    def renamed(self, names):
        """Return the pattern with the new names for letters that a dict tells."""
        if not isinstance(names, dict) or not all([is_name(old) and is_name(new) for old, new in names.items()]):
            raise InvalidOperation("this is not a dict from names to names")
        refuse_unknown(names, self._letters)
        new = with_others(names, self._letters)
        if not are_different(list(new.values())):
            raise InvalidPattern("two letters become equal")
        letters = {new[name]: kinds for name, kinds in self._letters.items()}
        return Pattern.of(letters, _with_names(self._conditions, new), _with_names(self._groups, new))

    def __and__(self, other):
        if not isinstance(other, Pattern):
            raise InvalidOperation("this is not a pattern")
        letters = other.letters
        if any([name in self._letters for name in letters]):
            raise InvalidOperation("both patterns have a letter of the same name")
        conditions = (*self._conditions, *other.conditions)
        return Pattern.of({**self._letters, **letters}, conditions, (*self._groups, *other.groups))

    def __contains__(self, x):
        return is_event(x) and x[1] in self._letters

    def __len__(self):
        return len(self._letters)

    def __iter__(self):
        return iter(self._letters)

    def __eq__(self, other):
        if not isinstance(other, Pattern) or self._letters != other.letters:
            return False
        return self._conditions == other.conditions and self._groups == other.groups

    def __str__(self):
        return f"pattern of {len(self)} letters, {len(self.conditions)} conditions, {len(self.groups)} groups"

    def _check_events(self, events):
        """Refuse the first value that is no event of the pattern."""
        for event in events:
            if event not in self:
                raise UnknownName(event)


class TakenPattern(Pattern):
    """A pattern with a letter whose name is taken by a parameter, so that it cannot be passed as a keyword."""

    def __init__(self, letters, conditions, groups):
        self._letters, self._conditions, self._groups = _parts_of(letters, conditions, groups)


def _all_orders(events):
    """Return all orders of some ascending events, ascending."""
    if not events:
        return [()]
    orders = []
    for at, event in enumerate(events):
        orders.extend([(event, *rest) for rest in _all_orders((*events[:at], *events[at + 1:]))])
    return orders


def arrangements(pattern):
    """Yield all arrangements of a pattern, ascending."""
    check_pattern(pattern)
    rows = [()]
    for group in pattern.groups:
        orders = _all_orders(group)
        rows = [(*row, order) for row in rows for order in orders]
    yield from rows


def _is_order_of(group, value):
    """Return whether a value is a tuple of the events of a group in some order."""
    if not isinstance(value, tuple) or not all([is_event(part) for part in value]):
        return False
    return tuple(sorted(value)) == group


def is_arrangement(pattern, value):
    """Return whether a value is an arrangement of a pattern."""
    check_pattern(pattern)
    groups = pattern.groups
    if not isinstance(value, tuple) or len(value) != len(groups):
        return False
    return all([_is_order_of(group, order) for group, order in zip(groups, value)])


def _are_different_patterns(values):
    """Return whether these values are different patterns."""
    if not all([isinstance(value, Pattern) for value in values]):
        return False
    return not any([pattern in values[:at] for at, pattern in enumerate(values)])


def is_index(rule, value):
    """Return whether a value is the index of a pattern of a rule."""
    return is_integer(value) and 0 <= value < len(rule)


class Rule:
    """One to six different patterns that are forbidden. A rule never changes."""

    def __init__(self, *patterns):
        if not 1 <= len(patterns) <= MAX_RULE or not _are_different_patterns(patterns):
            raise InvalidRule("these are not one to six different patterns")
        self._patterns = patterns

    @classmethod
    def of(cls, patterns):
        """Return the rule that forbids the patterns of a tuple."""
        if not isinstance(patterns, tuple):
            raise InvalidRule("these are not patterns in a tuple")
        return cls(*patterns)

    @property
    def patterns(self):
        """The patterns, as they were passed."""
        return self._patterns

    @property
    def kinds(self):
        """The kinds of all patterns, ascending."""
        return tuple(sorted({kind for pattern in self._patterns for kind in pattern.kinds}))

    def without(self, *indices):
        """Return the rule without the patterns with these indices."""
        for index in indices:
            self._check_index(index)
        return Rule.of(tuple([pattern for at, pattern in enumerate(self._patterns) if at not in indices]))

    def __or__(self, other):
        if not isinstance(other, Rule):
            raise InvalidOperation("this is not a rule")
        further = [pattern for pattern in other.patterns if pattern not in self._patterns]
        return Rule.of((*self._patterns, *further))

    def __getitem__(self, at):
        self._check_index(at)
        return self._patterns[at]

    def __contains__(self, x):
        return isinstance(x, Pattern) and x in self._patterns

    def __len__(self):
        return len(self._patterns)

    def __iter__(self):
        return iter(self._patterns)

    def __eq__(self, other):
        return isinstance(other, Rule) and self._patterns == other.patterns

    def __str__(self):
        return f"rule of {len(self._patterns)} patterns"

    def _check_index(self, index):
        """Refuse what is no position of a pattern."""
        if not is_index(self, index):
            raise InvalidNumber(index)
