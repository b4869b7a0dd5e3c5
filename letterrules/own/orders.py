"""Own orders: what is ahead of what wherever a pattern is placed by an arrangement."""

from letterrules.base.crowns import is_crown_of, least_crown
from letterrules.base.letters import is_name
from letterrules.base.orders import Order, is_ring, ring_of
from letterrules.errors import InvalidOperation, InvalidOrder, NoOrder, TooMany, UnknownName
from letterrules.rules.patterns import arrangements, is_arrangement
from letterrules.runs.runs import MAX_ORDERED


def check_own_order(order):
    """Refuse what is not an own order."""
    if not isinstance(order, OwnOrder):
        raise InvalidOrder("this is not an own order")


def check_arrangement(pattern, arrangement):
    """Refuse what is not a pattern and an arrangement of it."""
    if not is_arrangement(pattern, arrangement):
        raise InvalidOperation("this is not an arrangement of the pattern")


def _events_of(pattern):
    """Return all events of a pattern, ascending."""
    return tuple([(word, name) for word in ("read", "send") for name in pattern])


def _steps_of(pattern, arrangement):
    """Return all pairs of events of which the first one is given ahead of the second one."""
    letters = [(("send", name), ("read", name)) for name in pattern]
    rows = [pair for row in arrangement for pair in zip(row, row[1:])]
    return (*pattern.conditions, *letters, *rows)


class OwnOrder:
    """The order of the events of a pattern that follows from it and an arrangement. An own order never changes."""

    def __init__(self, pattern, arrangement):
        ring = ring_in(pattern, arrangement)
        if ring is not None:
            raise NoOrder(ring)
        self._pattern = pattern
        self._arrangement = arrangement
        self._order = Order.of(_events_of(pattern), _steps_of(pattern, arrangement))
        self._pairs = self._order.pairs

    @property
    def pattern(self):
        """The pattern."""
        return self._pattern

    @property
    def arrangement(self):
        """The arrangement."""
        return self._arrangement

    @property
    def events(self):
        """All events, ascending."""
        return self._order.things

    @property
    def next_pairs(self):
        """The pairs with no event between their events, ascending."""
        return self._order.next_pairs

    @property
    def run_set(self):
        """The word for the set of the order."""
        if _pairs_of(self):
            return "all"
        if lates_of(self):
            return "pairs"
        return "single" if least_crown(_followers(self)) is None else "causal"

    def __call__(self, event, other):
        self._check_events((event, other))
        return self.ahead(event, other)

    def ahead(self, event, other):
        """Return whether the first event is ahead of the other one; both are not checked."""
        return self._order.ahead(event, other)

    def between(self, event, other):
        """Return the events behind the first event and ahead of the other one, ascending."""
        self._check_events((event, other))
        return tuple([middle for middle in self.events if self.ahead(event, middle) and self.ahead(middle, other)])

    def all_rows(self):
        """Yield all tuples of all events in which each one stands in front of those behind it, ascending."""
        if len(self._pattern) > MAX_ORDERED:
            raise TooMany(MAX_ORDERED)
        yield from self._order.lines()

    def is_within(self, value):
        """Return whether a value is an own order that has all pairs of this one."""
        return isinstance(value, OwnOrder) and all([pair in value for pair in self._pairs])

    def __getitem__(self, at):
        return self._order.future(at)

    def __contains__(self, x):
        return x in self._pairs

    def __len__(self):
        return len(self._pairs)

    def __iter__(self):
        return iter(self._pairs)

    def __eq__(self, other):
        return isinstance(other, OwnOrder) and self._pattern == other.pattern and self._pairs == tuple(other)

    def __str__(self):
        return f"order of {len(self._pattern)} letters, {len(self._pairs)} pairs"

    def _check_events(self, events):
        """Refuse the first value that is no event of the pattern."""
        for event in events:
            if event not in self._pattern:
                raise UnknownName(event)


def are_together(order, event, other):
    """Return whether two events are known to be at one process."""
    return any([event in group and other in group for group in order.pattern.groups])


def _is_pair(order, one, other):
    """Return whether it is known that the second letter overtakes the first one."""
    sendings, readings = (("send", one), ("send", other)), (("read", other), ("read", one))
    return all([order.ahead(*pair) and are_together(order, *pair) for pair in (sendings, readings)])


def _is_late(order, letter, event):
    """Return whether a letter is late by an event."""
    return order.ahead(("send", letter), event) and order.ahead(event, ("read", letter))


def _pairs_of(order):
    """Return all pairs of letters of which the second one overtakes the first one, ascending."""
    return [(one, other) for one in order.pattern for other in order.pattern if _is_pair(order, one, other)]


def lates_of(order):
    """Return all pairs of a late letter and an event by which it is late, ascending."""
    return [(letter, event) for letter in order.pattern for event in order.events if _is_late(order, letter, event)]


def _followers(order):
    """Return for each letter the other ones whose readings its sending is ahead of."""
    names = list(order.pattern)
    followers = {}
    for one in names:
        followers[one] = [other for other in names if other != one and order.ahead(("send", one), ("read", other))]
    return followers


def own_orders(pattern):
    """Yield the own orders of all arrangements that have one, ascending."""
    for arrangement in arrangements(pattern):
        if ring_in(pattern, arrangement) is None:
            yield OwnOrder(pattern, arrangement)


def ring_in(pattern, arrangement):
    """Return a ring of the arrangement, or None if it has an own order."""
    check_arrangement(pattern, arrangement)
    return ring_of(_events_of(pattern), _steps_of(pattern, arrangement))


def is_ring_in(pattern, arrangement, value):
    """Return whether a value is a ring of the arrangement."""
    check_arrangement(pattern, arrangement)
    return is_ring(_events_of(pattern), _steps_of(pattern, arrangement), value)


def pair_in(order):
    """Return the least pair of an own order, or None."""
    check_own_order(order)
    pairs = _pairs_of(order)
    return pairs[0] if pairs else None


def late_in(order):
    """Return the least pair of a late letter and an event by which it is late, or None."""
    check_own_order(order)
    lates = lates_of(order)
    return lates[0] if lates else None


def crown_in(order):
    """Return the least one of the crowns with the fewest names, or None."""
    check_own_order(order)
    return least_crown(_followers(order))


def _are_letters(order, value):
    """Return whether a value is a tuple of letters of the pattern."""
    if not isinstance(value, tuple):
        return False
    letters = order.pattern.letters
    return all([is_name(part) and part in letters for part in value])


def is_pair_in(order, value):
    """Return whether a value is a pair of an own order."""
    check_own_order(order)
    return _are_letters(order, value) and len(value) == 2 and _is_pair(order, value[0], value[1])


def is_late_in(order, value):
    """Return whether a value is a pair of a late letter and an event by which it is late."""
    check_own_order(order)
    if not isinstance(value, tuple) or len(value) != 2:
        return False
    letter, event = value
    return _are_letters(order, (letter,)) and event in order.pattern and _is_late(order, letter, event)


def is_crown_in(order, value):
    """Return whether a value is a crown of an own order."""
    check_own_order(order)
    return _are_letters(order, value) and is_crown_of(_followers(order), value)
