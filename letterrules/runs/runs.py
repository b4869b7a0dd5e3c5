"""Runs: letters, and the rows of their events at the processes."""

from letterrules.base.letters import is_event, is_name, turned_event
from letterrules.base.masks import places_in
from letterrules.base.orders import Order
from letterrules.base.renaming import refuse_unknown, with_others
from letterrules.base.values import are_different
from letterrules.errors import InvalidName, InvalidOperation, InvalidRun, TooMany, UnknownName
from letterrules.runs.rows import are_letters, direct_heads, event_row, full_rows, past_masks

MAX_LETTERS = 60
MAX_PROCESSES = 40
MAX_ORDERED = 4


def check_run(run):
    """Refuse what is not a run."""
    if not isinstance(run, Run):
        raise InvalidRun("this is not a run")


def _renaming(names, known):
    """Return the new name of each known name; refuse what does not tell new names of these."""
    if not isinstance(names, dict) or not all([isinstance(name, str) for name in names]):
        raise InvalidOperation("this is not a dict with strings as keys")
    refuse_unknown(names, known)
    if not all([is_name(name) for name in names.values()]):
        raise InvalidName("a new name is not a name")
    return with_others(names, known)


class Run:
    """Letters with the rows of their events. A run never changes."""

    def __init__(self, letters, rows):
        if not are_letters(letters):
            raise InvalidRun("the letters are not letters by names")
        filled = full_rows(letters, rows)
        order = event_row(filled)
        if len(order) != sum([len(row) for row in filled.values()]):
            raise InvalidRun("an event is ahead of itself")
        if len(letters) > MAX_LETTERS:
            raise TooMany(MAX_LETTERS)
        if len(filled) > MAX_PROCESSES:
            raise TooMany(MAX_PROCESSES)
        self._letters = {name: letters[name] for name in sorted(letters)}
        self._rows = filled
        self._order = order
        self._spots = {event: (process, at) for process, row in filled.items() for at, event in enumerate(row)}
        self._places = {event: at for at, event in enumerate(order)}
        self._pasts = past_masks(filled, order)

    @property
    def letters(self):
        """The letters by their names."""
        return dict(self._letters)

    @property
    def rows(self):
        """The rows by all processes."""
        return dict(self._rows)

    @property
    def processes(self):
        """All processes, ascending."""
        return tuple(self._rows)

    @property
    def order(self):
        """All events: again and again the next one of the least process that can come."""
        return self._order

    @property
    def unread(self):
        """The letters that are not read, ascending."""
        return tuple([name for name in self._letters if ("read", name) not in self._spots])

    @property
    def is_whole(self):
        """Whether each letter is read."""
        return self.unread == ()

    def __call__(self, event, other):
        self._check_events((event, other))
        return self.ahead(event, other)

    def ahead(self, event, other):
        """Return whether the first event is ahead of the other one; both are not checked."""
        return (self._pasts[other] >> self._places[event]) & 1 == 1

    def place(self, event):
        """Return the process of an event and its position in the row."""
        self._check_events((event,))
        return self._spots[event]

    def past(self, *events):
        """Return these events and all ahead of one of them, as they stand in the order."""
        self._check_events(events)
        mask = 0
        for event in events:
            mask = mask | self._pasts[event] | (1 << self._places[event])
        return tuple([self._order[at] for at in places_in(mask)])

    def until(self, *events):
        """Return the run of the past of these events."""
        return self.with_events(self.past(*events))

    def with_events(self, events):
        """Return the run with these events and the letters that are sent there; all processes stay."""
        kept = {event: True for event in events}
        letters = {name: letter for name, letter in self._letters.items() if ("send", name) in kept}
        rows = {process: tuple([event for event in row if event in kept]) for process, row in self._rows.items()}
        return Run(letters, rows)

    def only(self, *letters):
        """Return the run with only the events of these letters."""
        self._check_letters(letters)
        return self.with_events([event for event in self._order if event[1] in letters])

    def without(self, *letters):
        """Return the run without the events of these letters."""
        self._check_letters(letters)
        return self.with_events([event for event in self._order if event[1] not in letters])

    def with_processes(self, **names):
        """Return the run with new names for processes."""
        return self.with_processes_by(names)

    def with_kinds(self, **names):
        """Return the run with new names for kinds."""
        return self.with_kinds_by(names)

    def with_letters(self, **names):
        """Return the run with new names for letters."""
        return self.with_letters_by(names)

    def with_processes_by(self, names):
        """Return the run with the new names for processes that a dict tells."""
        new = _renaming(names, self._rows)
        if not are_different(list(new.values())):
            raise InvalidRun("two processes become equal")
        letters = {}
        for name, (kind, sender, reader) in self._letters.items():
            letters[name] = (kind, new[sender], new[reader])
        return Run(letters, {new[process]: row for process, row in self._rows.items()})

    def with_kinds_by(self, names):
        """Return the run with the new names for kinds that a dict tells."""
        new = _renaming(names, {letter[0]: True for letter in self._letters.values()})
        letters = {name: (new[letter[0]], *letter[1:]) for name, letter in self._letters.items()}
        return Run(letters, self._rows)

    def with_letters_by(self, names):
        """Return the run with the new names for letters that a dict tells."""
        new = _renaming(names, self._letters)
        if not are_different(list(new.values())):
            raise InvalidRun("two letters become equal")
        rows = {process: tuple([(word, new[name]) for word, name in row]) for process, row in self._rows.items()}
        return Run({new[name]: letter for name, letter in self._letters.items()}, rows)

    def mirrored(self):
        """Return the run in which all goes the other way about."""
        if not self.is_whole:
            raise InvalidOperation("a letter is not read")
        letters = {}
        for name, (kind, sender, reader) in self._letters.items():
            letters[name] = (kind, reader, sender)
        rows = {process: tuple([turned_event(event) for event in row[::-1]]) for process, row in self._rows.items()}
        return Run(letters, rows)

    def __add__(self, other):
        if not isinstance(other, Run):
            raise InvalidOperation("this is not a run")
        letters, rows = other.letters, other.rows
        if any([name in self._letters for name in letters]):
            raise InvalidOperation("both runs have a letter of the same name")
        processes = sorted(set(self._rows) | set(rows))
        joined = {process: (*self._rows.get(process, ()), *rows.get(process, ())) for process in processes}
        return Run({**self._letters, **letters}, joined)

    def __len__(self):
        return len(self._letters)

    def __contains__(self, x):
        return is_event(x) and x in self._spots

    def __iter__(self):
        return iter(self._order)

    def __eq__(self, other):
        return isinstance(other, Run) and self._letters == other.letters and self._rows == other.rows

    def __str__(self):
        return f"run of {len(self._letters)} letters, {len(self._rows)} processes"

    def _check_events(self, events):
        """Refuse the first value that is no event of the run."""
        for event in events:
            if event not in self:
                raise UnknownName(event)

    def _check_letters(self, letters):
        """Refuse the first value that is no letter of the run."""
        for letter in letters:
            if not is_name(letter) or letter not in self._letters:
                raise UnknownName(letter)


def _order_of(run):
    """Return the order of the events of a run, which are told ascending."""
    heads = direct_heads(run.rows)
    pairs = [(head, event) for event in heads for head in heads[event]]
    return Order.of(tuple(sorted(run.order)), tuple(pairs))


def event_orders(run):
    """Yield all tuples of all events in which each one stands behind those ahead of it, ascending."""
    check_run(run)
    if len(run) > MAX_ORDERED:
        raise TooMany(MAX_ORDERED)
    order = _order_of(run)
    yield from order.lines()


def is_event_order(run, value):
    """Return whether a value is such a tuple."""
    check_run(run)
    return _order_of(run).is_line(value)
