"""Drivers: a transport or a talker is led along a run, until it has made the run or stands still."""

from letterrules.answers.answers import answer, breaking_paper
from letterrules.drive.judges import is_direct, is_restless, play_along, wished_processes
from letterrules.drive.parts import part_in_front
from letterrules.errors import InvalidOperation, InvalidTransport, UnknownName
from letterrules.marks.known import check_marking, is_calm
from letterrules.marks.least import breaking_run, keeps
from letterrules.plays.plays import Transport
from letterrules.plays.standard import begun_play, check_whole_run
from letterrules.plays.talkers import Talker, TalkPlay, check_most
from letterrules.rules.breaks import has_placing
from letterrules.rules.patterns import check_rule
from letterrules.runs.sets import is_in, letter_row


def _check_driven(transport, most):
    """Refuse what is not a transport or a talker, and a number of moves."""
    if not isinstance(transport, (Transport, Talker)):
        raise InvalidTransport("this is neither a transport nor a talker")
    check_most(most)


def _check_drive(run, transport, most):
    """Refuse what is not a whole run along which a transport or a talker can be driven."""
    check_whole_run(run)
    _check_driven(transport, most)
    if isinstance(transport, Talker):
        if not is_in(run, "single"):
            raise InvalidOperation("the run has a crown")
    elif not is_calm(run, transport.marking):
        raise InvalidOperation("the run is not calm for the marking of the transport")


def _still_play(transport, run, step):
    """Return a still play of a transport that holds a step when a calm run, or a seen part of one, is played."""
    part = part_in_front(run, transport.marking, step)
    play, held = begun_play(transport, part)
    if held is not None:
        return _still_play(transport, part, held)
    word, letter = step
    if word == "send":
        play.do(("wish", letter, *run.letters[letter]))
    # What is under way comes first, since these steps are ascending.
    steps = list(play.next_steps())
    while steps:
        play.do(steps[0])
        steps = list(play.next_steps())
    return play


def _drive_transport(run, transport):
    """Return a drive paper of a transport."""
    play, held = begun_play(transport, run)
    return ("made", play.steps) if held is None else ("still", _still_play(transport, run, held).steps)


def _drive_talker(run, talker, most):
    """Return a drive paper of a talker."""
    processes = run.processes
    letters = run.letters
    play = TalkPlay(talker, *processes)
    for letter in letter_row(run):
        play.do(("wish", letter, *letters[letter]))
        if not play.runs_down(most):
            return ("restless", play.moves)
        if play.pending:
            return ("still", play.moves)
    return ("made", play.moves)


def _driven(run, transport, most):
    """Return a drive paper of a transport or a talker."""
    if isinstance(transport, Talker):
        return _drive_talker(run, transport, most)
    return _drive_transport(run, transport)


def drive(run, transport, *, most=1000):
    """Return a drive paper: a play that makes a whole run, or one that stands still or does not come to rest."""
    _check_drive(run, transport, most)
    return _driven(run, transport, most)


def _is_pair(value, words):
    """Return whether a value is a pair that begins with one of some words."""
    return isinstance(value, tuple) and len(value) == 2 and value[0] in words


def _is_made(play, run, transport):
    """Return whether a play shows that a transport or a talker makes a run."""
    if isinstance(transport, Talker):
        return play.is_quiet() and play.run() == run
    return is_direct(play.steps) and play.run() == run


def _stops(word, play, transport, most):
    """Return whether a play is one that stands still, or does not come to rest, as a word tells."""
    if word == "still":
        return play.is_still()
    return isinstance(transport, Talker) and is_restless(play, most)


def is_drive_paper(run, transport, value, *, most=1000):
    """Return whether a value is a drive paper."""
    _check_drive(run, transport, most)
    if not _is_pair(value, ("made", "still", "restless")):
        return False
    play = play_along(transport, run.processes, value[1])
    if play is None:
        return False
    if value[0] == "made":
        return _is_made(play, run, transport)
    if not _stops(value[0], play, transport, most):
        return False
    return isinstance(transport, Talker) or begun_play(transport, run)[1] is not None


def seen_part(run, marking, event):
    """Return the seen part of a whole run in front of an event."""
    check_whole_run(run)
    check_marking(marking)
    if event not in run:
        raise UnknownName(event)
    return part_in_front(run, marking, event)


def _run_to_break(rule, transport):
    """Return a run that breaks a rule, along which a transport or a talker can be driven."""
    if not isinstance(transport, Talker):
        if keeps(rule, transport.marking):
            raise InvalidOperation("the marking keeps the rule")
        return breaking_run(rule, transport.marking)[1]
    if answer(rule) != "never":
        raise InvalidOperation("letters of the talker's own can keep the rule")
    return breaking_paper(rule, "single")[1]


def beat(rule, transport, *, most=1000):
    """Return a beat paper: a play that breaks a rule, or one that stands still or does not come to rest."""
    check_rule(rule)
    _check_driven(transport, most)
    word, steps = _driven(_run_to_break(rule, transport), transport, most)
    return ("broken" if word == "made" else word, steps)


def _breaks(run, rule):
    """Return whether a run breaks a rule, however many choices of letters there are."""
    return any([has_placing(run, pattern) for pattern in rule.patterns])


def is_beat_paper(rule, transport, value, *, most=1000):
    """Return whether a value is a beat paper, also for a rule that is not beaten by `beat`."""
    check_rule(rule)
    _check_driven(transport, most)
    if not _is_pair(value, ("broken", "still", "restless")):
        return False
    processes = wished_processes(value[1])
    play = None if processes is None else play_along(transport, processes, value[1])
    if play is None:
        return False
    if value[0] == "broken":
        return play.is_quiet() and _breaks(play.run(), rule)
    return _stops(value[0], play, transport, most)
