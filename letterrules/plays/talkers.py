"""Talkers, which can send letters of their own; and talk plays: what happens under a talker, move by move."""

from letterrules.base.letters import is_name
from letterrules.base.trials import Trial
from letterrules.base.values import is_integer
from letterrules.errors import (
    InvalidName, InvalidNumber, InvalidOperation, InvalidTransport, NothingToUndo, TooMany, UnknownName,
)
from letterrules.plays.asking import asked_step
from letterrules.plays.states import first_views
from letterrules.plays.talks import TalkState, happening, is_at_rest, state_at_rest, state_behind, told_at

MOST_MOVES = 10000


def check_talker(talker):
    """Refuse what is not a talker."""
    if not isinstance(talker, Talker):
        raise InvalidTransport("this is not a talker")


def check_most(most):
    """Refuse what is not a number of moves."""
    if not is_integer(most) or not 1 <= most <= MOST_MOVES:
        raise InvalidNumber(most)


def _can_be_told(value):
    """Return whether a value is one of the things that a talker can tell a process to do."""
    if value is None:
        return True
    if not isinstance(value, tuple) or not value or not all([is_name(part) for part in value[1:]]):
        return False
    return len(value) == 3 if value[0] == "tell" else len(value) == 2 and value[0] in ("send", "read")


class Talker:
    """A function of views that tells what a process does next."""

    def __init__(self, step):
        if step is None or isinstance(step, (int, str, tuple, list, dict)):
            raise InvalidTransport("this is not a function")
        self._function = step

    @classmethod
    def asking(cls):
        """Return the talker that sends a letter only when its reader has said yes."""
        return Talker(asked_step)

    def __call__(self, view):
        function = self._function
        found = function(view)
        if not _can_be_told(found):
            raise InvalidOperation("the talker tells what no process can do")
        return found


class TalkPlay:
    """Processes, and the moves that have been done there under a talker."""

    def __init__(self, talker, *processes):
        check_talker(talker)
        self._talker = talker
        self._state = TalkState(first_views(processes))

    @classmethod
    def of(cls, talker, processes):
        """Return the play without moves at the processes of a tuple."""
        check_talker(talker)
        if not isinstance(processes, tuple):
            raise InvalidName("these are not names in a tuple")
        return cls(talker, *processes)

    @property
    def talker(self):
        """The talker."""
        return self._talker

    @property
    def processes(self):
        """The processes, ascending."""
        return tuple(self._state.views_by)

    @property
    def moves(self):
        """All moves so far."""
        return self._state.done

    @property
    def pending(self):
        """The letters that are wished and not sent, or have come and are not read, ascending."""
        return self._state.letters_at("wish", "come")

    def next_moves(self):
        """Yield all moves but wishes that are possible, ascending."""
        # All are found first: an error comes with the first value, and the play can go on between two values.
        state = self._state
        acting = [process for process in state.views_by if told_at(self._talker, state, process) is not None]
        moves = [("act", process) for process in acting]
        moves.extend([("come", letter) for letter in state.letters_at("send")])
        moves.extend([("hear", number) for number in sorted(state.unheard)])
        yield from moves

    def is_still(self):
        """Return whether nothing is under way, no act is possible, and something is pending."""
        return self.pending != () and self.rests()

    def is_quiet(self):
        """Return whether nothing is under way or pending, and no act is possible."""
        return self.pending == () and self.rests()

    def rests(self):
        """Return whether nothing is under way and no act is possible."""
        return is_at_rest(self._talker, self._state)

    def run(self):
        """Return the run of the letters that have been sent."""
        return self._state.run_so_far()

    def view(self, process):
        """Return the view of a process."""
        if not is_name(process) or process not in self._state.views_by:
            raise UnknownName(process)
        return self._state.views_by[process]

    def do(self, move):
        """Do a move, and return the number of moves so far."""
        return self.do_all((move,))

    def do_all(self, moves):
        """Do all moves of a tuple or none of them, and return the number of moves so far."""
        if not isinstance(moves, tuple) or not self.goes_along(moves):
            raise InvalidOperation("these are not possible moves in a tuple")
        return len(self)

    def goes_along(self, moves):
        """Do all moves of a tuple if all are possible, and return whether they are."""
        state = self._state
        for move in moves:
            found = happening(self._talker, state, move)
            if found is None:
                return False
            state = state_behind(state, move, *found)
        self._state = state
        return True

    def settle(self, *, most=1000):
        """Do possible moves, but no wishes, until the play rests, and return their number."""
        check_most(most)
        kept = self._state
        if not self.runs_down(most):
            self._state = kept
            raise TooMany(most)
        return len(self) - len(kept.done)

    def runs_down(self, most):
        """Do possible moves, but no wishes, until the play rests or so many are done; return whether it rests."""
        state = state_at_rest(self._talker, self._state, most)
        rests = is_at_rest(self._talker, state)
        self._state = state
        return rests

    def back(self, *, many=1):
        """Take back the last moves, and return the number of those left."""
        if not is_integer(many) or many < 0:
            raise InvalidNumber(many)
        if many > len(self):
            raise NothingToUndo(many)
        state = self._state
        for _ in range(many):
            state = state.taken_back()
        self._state = state
        return len(self)

    def trial(self):
        """Return a block in which the play can go on, and behind which it is as before."""
        return Trial(self)

    def attempt(self, action):
        """Return what a function of the play returns in such a block."""
        with self.trial() as same:
            return action(same)

    def twin(self):
        """Return an independent play in the same state."""
        processes = self.processes
        made = TalkPlay(self._talker, *processes)
        made._state = self._state
        return made

    def __iter__(self):
        return iter(self._state.done)

    def __len__(self):
        return len(self._state.done)

    def __eq__(self, other):
        if not isinstance(other, TalkPlay) or self.moves != other.moves:
            return False
        return self._state.views_by == other._state.views_by

    def __str__(self):
        return f"talk of {len(self.processes)} processes, {len(self)} moves"
