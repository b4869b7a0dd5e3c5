"""Seen parts: what of a run can tell a process whether an event is to come."""


def _seen_by_reading(run, marking, letter):
    """Return the events that the reading of a letter lets its reader see."""
    process, at = run.place(("send", letter))
    front = run.rows[process][:at]
    word = marking.word_of(run.letters[letter][0])
    if word == "notes":
        return [*front, ("send", letter)]
    sendings = [event for event in front if event[0] == "send"] if word == "numbers" else []
    return [*sendings, ("send", letter)]


def part_in_front(run, marking, event):
    """Return the seen part of a run, whole or not, in front of one of its events."""
    process, at = run.place(event)
    left = list(run.rows[process][:at])
    if event[0] == "read":
        left.extend(_seen_by_reading(run, marking, event[1]))
    kept = {}
    while left:
        one = left.pop()
        if one not in kept:
            kept[one] = True
            if one[0] == "read":
                left.extend(_seen_by_reading(run, marking, one[1]))
    return run.with_events(list(kept))
