"""Judges: whether steps or moves are those of a play that is told."""

from letterrules.base.letters import is_letter
from letterrules.plays.plays import Play
from letterrules.plays.talkers import Talker, TalkPlay
from letterrules.runs.runs import MAX_PROCESSES


def _step_play(transport, processes, steps):
    """Return the play with these steps, or None if one is not possible or not allowed."""
    play = Play(transport, *processes)
    for step in steps:
        if not play.may(step):
            return None
        play.do(step)
    return play


def _move_play(talker, processes, moves):
    """Return the talk play with these moves, or None if one is not possible."""
    play = TalkPlay(talker, *processes)
    return play if play.goes_along(moves) else None


def play_along(transport, processes, value):
    """Return the play of a transport or a talker with the steps or moves that a value tells, or None."""
    if not isinstance(value, tuple):
        return None
    if isinstance(transport, Talker):
        return _move_play(transport, processes, value)
    return _step_play(transport, processes, value)


def is_direct(steps):
    """Return whether each wish and each coming of a play stands just in front of the sending, or the reading."""
    if len(steps) & 1:
        return False
    rows = [(first[0], last[0], first[1] == last[1]) for first, last in zip(steps[::2], steps[1::2])]
    return all([row in (("wish", "send", True), ("come", "read", True)) for row in rows])


def is_restless(play, most):
    """Return whether so many moves of a talk play stand behind the last wish, and it does not rest."""
    places = [at for at, move in enumerate(play.moves) if move[0] == "wish"]
    return places != [] and len(play) == places[-1] + 1 + most and not play.rests()


def wished_processes(value):
    """Return the processes that the wishes among some values name, or None if there are too many for a play."""
    if not isinstance(value, tuple):
        return None
    wishes = [part for part in value if isinstance(part, tuple) and len(part) == 5 and part[0] == "wish"]
    names = [name for wish in wishes if is_letter(wish[2:]) for name in wish[3:]]
    processes = tuple(sorted(set(names)))
    return processes if len(processes) <= MAX_PROCESSES else None
