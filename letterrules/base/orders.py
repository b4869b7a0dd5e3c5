"""Orders of things, and rings where pairs of things have no order."""

from letterrules.base.letters import is_event, is_name
from letterrules.base.masks import closed, heads_of, places_in, ring_places
from letterrules.base.values import are_different, is_integer
from letterrules.errors import InvalidOperation, InvalidOrder, UnknownName

MAX_THINGS = 240


def is_thing(value):
    """Return whether a value is a name, an event or an integer from 0 on."""
    return is_name(value) or is_event(value) or (is_integer(value) and value >= 0)


def are_things(value):
    """Return whether a value is a tuple of different things."""
    return isinstance(value, tuple) and all([is_thing(part) for part in value]) and are_different(value)


def _places_of(things):
    """Return the place of each of these things, which must be those of an order."""
    if not are_things(things) or len(things) > MAX_THINGS:
        raise InvalidOrder("these are not at most 240 different things in a tuple")
    return {thing: at for at, thing in enumerate(things)}


def _is_pair(places, value):
    """Return whether a value is a pair of things that have places."""
    if not isinstance(value, tuple) or len(value) != 2:
        return False
    return all([is_thing(part) and part in places for part in value])


def _heads_by(places, pairs):
    """Return for each thing the mask of those that the pairs tell to be ahead of it."""
    if not isinstance(pairs, tuple) or not all([_is_pair(places, pair) for pair in pairs]):
        raise InvalidOrder("these are not pairs of the things in a tuple")
    return heads_of(len(places), [(places[one], places[other]) for one, other in pairs])


def ring_of(things, pairs):
    """Return a ring of the pairs, or None if they have none."""
    heads = _heads_by(_places_of(things), pairs)
    ring = ring_places(heads, closed(heads))
    return None if ring is None else tuple([things[at] for at in ring])


def is_ring(things, pairs, value):
    """Return whether a value is a ring of the pairs."""
    places = _places_of(things)
    heads = _heads_by(places, pairs)
    if not are_things(value) or not value or not all([part in places for part in value]):
        return False
    ring = [places[part] for part in value]
    behind = [*ring[1:], ring[0]]
    return all([(heads[other] >> one) & 1 == 1 for one, other in zip(ring, behind)])


class Order:
    """Different things, of which some are ahead of others. An order never changes."""

    def __init__(self, things, *pairs):
        places = _places_of(things)
        heads = _heads_by(places, pairs)
        pasts = closed(heads)
        if ring_places(heads, pasts) is not None:
            raise InvalidOrder("the pairs have a ring")
        self._things = things
        self._places = places
        self._pasts = pasts

    @classmethod
    def of(cls, things, pairs):
        """Return the order of these things that follows from a tuple of pairs."""
        if not isinstance(pairs, tuple):
            raise InvalidOrder("these are not pairs in a tuple")
        return cls(things, *pairs)

    @classmethod
    def line(cls, things):
        """Return the order in which each of the things is ahead of the next one."""
        _places_of(things)
        pairs = tuple(zip(things, things[1:]))
        return cls(things, *pairs)

    @property
    def things(self):
        """All things, as they were told."""
        return self._things

    @property
    def pairs(self):
        """All pairs, the first of which is ahead of the second one."""
        return self._pairs_of(self._pasts)

    @property
    def next_pairs(self):
        """All pairs with nothing between their things."""
        far = []
        for past in self._pasts:
            mask = 0
            for at in places_in(past):
                mask = mask | self._pasts[at]
            far.append(mask)
        return self._pairs_of([past & ~mask for past, mask in zip(self._pasts, far)])

    @property
    def firsts(self):
        """The things that nothing is ahead of."""
        return tuple([thing for thing, past in zip(self._things, self._pasts) if past == 0])

    @property
    def lasts(self):
        """The things that nothing is behind."""
        mask = 0
        for past in self._pasts:
            mask = mask | past
        return tuple([thing for at, thing in enumerate(self._things) if (mask >> at) & 1 == 0])

    def __call__(self, one, other):
        self._check(one)
        self._check(other)
        return self.ahead(one, other)

    def ahead(self, one, other):
        """Return whether the first thing is ahead of the second one; both are not checked."""
        return (self._pasts[self._places[other]] >> self._places[one]) & 1 == 1

    def past(self, thing):
        """Return the things ahead of this one."""
        self._check(thing)
        return tuple([self._things[at] for at in places_in(self._pasts[self._places[thing]])])

    def future(self, thing):
        """Return the things behind this one."""
        self._check(thing)
        return tuple([other for other in self._things if self.ahead(thing, other)])

    def only(self, things):
        """Return the order that has only these things."""
        if not are_things(things):
            raise InvalidOrder("these are not different things in a tuple")
        for thing in things:
            self._check(thing)
        pairs = [(one, other) for one in things for other in things if self.ahead(one, other)]
        return Order.of(things, tuple(pairs))

    def is_within(self, value):
        """Return whether a value is an order of the same things that has all these pairs."""
        if not isinstance(value, Order) or len(self._things) != len(value.things):
            return False
        if not all([thing in value for thing in self._things]):
            return False
        return all([value.ahead(one, other) for one, other in self.next_pairs])

    def lines(self):
        """Yield all lines; of two, the one that has the thing that was told first where they differ."""
        row = self._row_from([])
        while row is not None:
            yield tuple([self._things[at] for at in row])
            row = self._row_behind(row)

    def is_line(self, value):
        """Return whether a value is a line of the order."""
        if not are_things(value) or len(value) != len(self._things):
            return False
        if not all([thing in self._places for thing in value]):
            return False
        gone = 0
        for thing in value:
            at = self._places[thing]
            if self._pasts[at] & ~gone:
                return False
            gone = gone | (1 << at)
        return True

    def __iter__(self):
        return iter(self._things)

    def __len__(self):
        return len(self._things)

    def __contains__(self, x):
        return is_thing(x) and x in self._places

    def __or__(self, other):
        if not isinstance(other, Order):
            raise InvalidOperation("this is not an order")
        further = [thing for thing in other.things if thing not in self._places]
        return Order.of((*self._things, *further), (*self.next_pairs, *other.next_pairs))

    def __invert__(self):
        return Order.of(self._things, tuple([(other, one) for one, other in self.next_pairs]))

    def __eq__(self, other):
        return isinstance(other, Order) and self.is_within(other) and other.is_within(self)

    def __str__(self):
        return f"order of {len(self._things)} things, {len(self.pairs)} pairs"

    def _check(self, thing):
        """Refuse what is no thing of the order."""
        if thing not in self:
            raise UnknownName(thing)

    def _pairs_of(self, masks):
        """Return the pairs of each thing behind the things in its mask, in the order of the first ones."""
        things = self._things
        return tuple([
            (one, other) for at, one in enumerate(things) for other, mask in zip(things, masks) if (mask >> at) & 1
        ])

    def _next_place(self, gone, start):
        """Return the first place from a start on whose thing can come when those of a mask have, or None."""
        for at in range(start, len(self._things)):
            if not (gone >> at) & 1 and not self._pasts[at] & ~gone:
                return at
        return None

    def _row_from(self, head):
        """Return the places of the first line that begins with these."""
        row = list(head)
        gone = 0
        for at in head:
            gone = gone | (1 << at)
        while len(row) < len(self._things):
            at = self._next_place(gone, 0)
            row.append(at)
            gone = gone | (1 << at)
        return row

    def _row_behind(self, row):
        """Return the places of the line that comes behind this one, or None behind the last one."""
        gone = (1 << len(row)) - 1
        for last in reversed(range(len(row))):
            gone = gone & ~(1 << row[last])
            at = self._next_place(gone, row[last] + 1)
            if at is not None:
                return self._row_from([*row[:last], at])
        return None
