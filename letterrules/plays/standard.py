"""Standard transports, which tell by marks what processes know; and runs that transports make."""

from letterrules.errors import Held, InvalidRun, UnknownName
from letterrules.marks.known import Marking
from letterrules.plays.plays import Play, Transport, check_transport
from letterrules.runs.runs import check_run


def silent():
    """Return the standard transport in which letters carry nothing."""
    return marked(Marking())


def numbered():
    """Return the standard transport in which all letters carry numbers."""
    return marked(Marking.even("numbers"))


def noted():
    """Return the standard transport in which all letters carry notes."""
    return marked(Marking.even("notes"))


def marked(marking):
    """Return the standard transport of a marking."""
    return Transport(marking, may_read=_may_read, number=_number, note=_note)


def _number(sent, letter, kind, reader):
    """Return the mark that tells the letters sent before."""
    return tuple(sorted([(name, other) for name, _, other in sent]))


def _note(view, letter, kind, reader):
    """Return the mark that tells the letters known before."""
    return known_by(view)


def _may_read(view, letter):
    """Return whether a letter that has come can be read."""
    return blocking(view, letter) == ()


def known_by(view):
    """Return the pairs of a letter and its reader for all letters that a process knows, ascending."""
    process = view[0][1]
    readers = {item[1]: item[3] for item in view if item[0] == "wish"}
    marks = {item[1]: item[4] for item in view if item[0] == "come"}
    pairs = [(item[1], readers[item[1]]) for item in view if item[0] == "send"]
    for item in view:
        if item[0] == "read":
            pairs.append((item[1], process))
            pairs.extend(_told_by(marks[item[1]]))
    return tuple(sorted(set(pairs)))


def _told_by(mark):
    """Return the pairs that a mark tells."""
    return () if mark is None else mark


def blocking(view, letter):
    """Return the letters that must be read before a letter that has come can be read, ascending."""
    done = [item[1] for item in view if item[0] == "read"]
    marks = [item[4] for item in view if item[0] == "come" and item[1] == letter]
    if not marks or letter in done:
        raise UnknownName(letter)
    process = view[0][1]
    return tuple(sorted([name for name, reader in _told_by(marks[0]) if reader == process and name not in done]))


def begun_play(transport, run):
    """Return a direct play that is begun along a run, whole or not, and the step at which the transport holds it."""
    processes = run.processes
    play = Play(transport, *processes)
    letters = run.letters
    for step in run.order:
        word, letter = step
        play.do(("wish", letter, *letters[letter]) if word == "send" else ("come", letter))
        if not play.may(step):
            return play, step
        play.do(step)
    return play, None


def check_whole_run(run):
    """Refuse what is not a whole run."""
    check_run(run)
    if not run.is_whole:
        raise InvalidRun("a letter is not read")


def played(transport, run):
    """Return a direct play whose run is a whole run."""
    check_transport(transport)
    check_whole_run(run)
    play, held = begun_play(transport, run)
    if held is not None:
        raise Held(held)
    return play


def first_held(transport, run):
    """Return a step that is not allowed when a direct play is begun along a whole run, or None if there is a play."""
    check_transport(transport)
    check_whole_run(run)
    _, held = begun_play(transport, run)
    return held
