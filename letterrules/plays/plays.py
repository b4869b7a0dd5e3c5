"""Transports, and plays: what happens to letters under a transport, step by step."""

from letterrules.base.letters import is_name
from letterrules.base.values import is_integer
from letterrules.errors import (
    Held, InvalidName, InvalidNumber, InvalidOperation, InvalidTransport, NothingToUndo, UnknownName,
)
from letterrules.marks.known import check_marking
from letterrules.plays.states import State, first_views
from letterrules.base.trials import Trial

MAX_DEPTH = 10


def check_transport(transport):
    """Refuse what is not a transport."""
    if not isinstance(transport, Transport):
        raise InvalidTransport("this is not a transport")


def _is_plain(value, depth):
    """Return whether a value is a plain value, nested at most so deep."""
    if isinstance(value, tuple):
        return depth > 0 and all([_is_plain(part, depth - 1) for part in value])
    return value is None or isinstance(value, (bool, int, str))


def _verdict(action, view, letter):
    """Return whether a function of a transport, if there is one, allows a step."""
    found = True if action is None else action(view, letter)
    if found is not True and found is not False:
        raise InvalidOperation("a function of the transport returns what is no boolean")
    return found


def sent_in(view):
    """Return the triples of a letter, its kind and its reader for all letters that are sent in a view, in order."""
    wished = {item[1]: item[1:] for item in view if item[0] == "wish"}
    return tuple([wished[item[1]] for item in view if item[0] == "send"])


class Transport:
    """A marking with functions that tell which steps are allowed, and what is put on letters."""

    def __init__(self, marking, *, may_send=None, may_read=None, number=None, note=None):
        check_marking(marking)
        if any([isinstance(action, (int, str, tuple, list, dict)) for action in (may_send, may_read, number, note)]):
            raise InvalidOperation("this is not a function")
        self._marking = marking
        self._may_send = may_send
        self._may_read = may_read
        self._number = number
        self._note = note

    @property
    def marking(self):
        """The marking."""
        return self._marking

    def lets_send(self, view, letter):
        """Return whether a letter can be sent with this view."""
        return _verdict(self._may_send, view, letter)

    def lets_read(self, view, letter):
        """Return whether a letter can be read with this view."""
        return _verdict(self._may_read, view, letter)

    def mark_of(self, view, letter, kind, reader):
        """Return the mark of a letter that is sent with this view."""
        word = self._marking.word_of(kind)
        action = {"nothing": None, "numbers": self._number, "notes": self._note}[word]
        if action is None:
            return None
        mark = action(sent_in(view) if word == "numbers" else view, letter, kind, reader)
        if not _is_plain(mark, MAX_DEPTH):
            raise InvalidOperation("a function of the transport returns what is no plain value")
        return mark


class Play:
    """Processes, and the steps that have been done there under a transport."""

    def __init__(self, transport, *processes):
        check_transport(transport)
        self._transport = transport
        self._state = State(first_views(processes))

    @classmethod
    def of(cls, transport, processes):
        """Return the play without steps at the processes of a tuple."""
        check_transport(transport)
        if not isinstance(processes, tuple):
            raise InvalidName("these are not names in a tuple")
        return cls(transport, *processes)

    @property
    def transport(self):
        """The transport."""
        return self._transport

    @property
    def processes(self):
        """The processes, ascending."""
        return tuple(self._state.views_by)

    @property
    def steps(self):
        """All steps so far."""
        return self._state.done

    @property
    def letters(self):
        """All wished letters by their names."""
        return {letter: self._state.told[letter] for letter in sorted(self._state.told)}

    @property
    def under_way(self):
        """The letters that are sent and have not come, ascending."""
        return self._state.letters_at("send")

    @property
    def pending(self):
        """The letters that are wished and not sent, or have come and are not read, ascending."""
        return self._state.letters_at("wish", "come")

    def run(self):
        """Return the run of the letters that have been sent."""
        return self._state.run_so_far()

    def is_quiet(self):
        """Return whether nothing is under way or pending."""
        return self.under_way == () and self.pending == ()

    def is_still(self):
        """Return whether nothing is under way, something is pending, and nothing pending is allowed."""
        return self.under_way == () and self.pending != () and self._allowed_steps() == []

    def view(self, process):
        """Return the view of a process."""
        if not is_name(process) or process not in self._state.views_by:
            raise UnknownName(process)
        return self._state.views_by[process]

    def mark(self, letter):
        """Return what a letter that has been sent carries."""
        if not is_name(letter) or letter not in self._state.carried:
            raise UnknownName(letter)
        return self._state.carried[letter]

    def do(self, step):
        """Do a step, and return the number of steps so far."""
        return self.do_all((step,))

    def do_all(self, steps):
        """Do all steps of a tuple or none of them, and return the number of steps so far."""
        if not isinstance(steps, tuple):
            raise InvalidOperation("these are not steps in a tuple")
        state = self._state
        for step in steps:
            state = self._state_behind(state, step)
        self._state = state
        return len(self)

    def wish(self, letter, kind, sender, reader):
        """Let a user wish that a letter is sent."""
        return self.do(("wish", letter, kind, sender, reader))

    def send(self, letter):
        """Send a letter."""
        return self.do(("send", letter))

    def come(self, letter):
        """Let a letter come to its reader."""
        return self.do(("come", letter))

    def read(self, letter):
        """Read a letter."""
        return self.do(("read", letter))

    def may(self, value):
        """Return whether a value is a possible step that is allowed."""
        return self._state.is_possible(value) and self._allows(self._state, value)

    def next_steps(self):
        """Yield all steps but wishes that are possible and allowed, ascending."""
        # All are found first: an error comes with the first value, and the play can go on between two values.
        steps = self._allowed_steps()
        yield from steps

    def back(self, *, many=1):
        """Take back the last steps, and return the number of those left."""
        if not is_integer(many) or many < 0:
            raise InvalidNumber(many)
        if many > len(self):
            raise NothingToUndo(many)
        state = self._state
        for _ in range(many):
            state = state.before
        self._state = state
        return len(self)

    def trial(self):
        """Return a block in which the play can go on, and behind which it is as before."""
        return Trial(self)

    def attempt(self, action):
        """Return what a function of the play returns in such a block."""
        with self.trial() as same:
            return action(same)

    def twin(self):
        """Return an independent play in the same state."""
        processes = self.processes
        made = Play(self._transport, *processes)
        made._state = self._state
        return made

    def __iter__(self):
        return iter(self._state.done)

    def __len__(self):
        return len(self._state.done)

    def __eq__(self, other):
        if not isinstance(other, Play) or self.processes != other.processes or self.steps != other.steps:
            return False
        return self._state.carried == other._state.carried

    def __str__(self):
        return f"play of {len(self.processes)} processes, {len(self)} steps"

    def _allows(self, state, step):
        """Return whether the transport allows a possible step."""
        word, letter = step[0], step[1]
        view = state.views_by[state.place_of(step)]
        if word == "send":
            return self._transport.lets_send(view, letter)
        return word != "read" or self._transport.lets_read(view, letter)

    def _state_behind(self, state, step):
        """Return the state behind a step; refuse one that is not possible or not allowed."""
        if not state.is_possible(step):
            raise InvalidOperation("the step is not possible")
        if not self._allows(state, step):
            raise Held(step)
        mark = None
        if step[0] == "send":
            kind, sender, reader = state.told[step[1]]
            mark = self._transport.mark_of(state.views_by[sender], step[1], kind, reader)
        return state.after(step, mark)

    def _allowed_steps(self):
        """Return all steps but wishes that are possible and allowed, ascending."""
        state = self._state
        coming = [("come", letter) for letter in state.letters_at("send")]
        reading = [("read", letter) for letter in state.letters_at("come")]
        sending = [("send", letter) for letter in state.letters_at("wish")]
        return [step for step in (*coming, *reading, *sending) if self._allows(state, step)]
