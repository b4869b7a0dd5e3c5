"""Rows of events: whether letters can have them, and which events are ahead of which."""

from letterrules.base.letters import is_event, is_letter, is_name
from letterrules.base.values import are_different
from letterrules.errors import InvalidRun


def are_letters(value):
    """Return whether a value is a dict from names to letters."""
    if not isinstance(value, dict):
        return False
    return all([is_name(name) and is_letter(letter) for name, letter in value.items()])


def _are_rows(value):
    """Return whether a value is a dict from processes to tuples of events."""
    if not isinstance(value, dict):
        return False
    if not all([is_name(process) and isinstance(row, tuple) for process, row in value.items()]):
        return False
    return all([is_event(event) for row in value.values() for event in row])


def _is_at(letters, process, event):
    """Return whether an event is one of the letters, at the process where it must be."""
    word, name = event
    if name not in letters:
        return False
    _, sender, reader = letters[name]
    return process == (sender if word == "send" else reader)


def full_rows(letters, rows):
    """Return the rows of all processes, ascending; refuse what cannot be rows of these letters."""
    if not _are_rows(rows):
        raise InvalidRun("the rows are not tuples of events by processes")
    if not all([_is_at(letters, process, event) for process, row in rows.items() for event in row]):
        raise InvalidRun("an event stands in a row where it cannot be")
    events = [event for row in rows.values() for event in row]
    if not are_different(events) or len([word for word, _ in events if word == "send"]) != len(letters):
        raise InvalidRun("a letter is not sent once, or is read twice")
    processes = sorted(set(rows) | {process for letter in letters.values() for process in letter[1:]})
    return {process: rows.get(process, ()) for process in processes}


def _next_process(rows, places, sent):
    """Return the least process whose next event can come, or None."""
    for process, row in rows.items():
        if places[process] < len(row):
            word, name = row[places[process]]
            if word == "send" or name in sent:
                return process
    return None


def event_row(rows):
    """Return the events of ascending rows in the order of the run, but for those that can never come."""
    places = {}
    for process in rows:
        places[process] = 0
    sent = {}
    events = []
    process = _next_process(rows, places, sent)
    while process is not None:
        event = rows[process][places[process]]
        places[process] = places[process] + 1
        if event[0] == "send":
            sent[event[1]] = True
        events.append(event)
        process = _next_process(rows, places, sent)
    return tuple(events)


def direct_heads(rows):
    """Return for each event those directly ahead of it: in its row, and the sending of its letter."""
    fronts = {other: one for row in rows.values() for one, other in zip(row, row[1:])}
    heads = {}
    for row in rows.values():
        for event in row:
            sending = ("send", event[1]) if event[0] == "read" else None
            heads[event] = tuple([head for head in (fronts.get(event), sending) if head is not None])
    return heads


def past_masks(rows, order):
    """Return for each event the mask of the places, in the order of the run, of those ahead of it."""
    heads = direct_heads(rows)
    places = {event: at for at, event in enumerate(order)}
    pasts = {}
    for event in order:
        mask = 0
        for head in heads[event]:
            mask = mask | pasts[head] | (1 << places[head])
        pasts[event] = mask
    return pasts
