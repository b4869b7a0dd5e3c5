"""The asking talker: a letter is sent when its reader has said yes, and reads it ahead of all else."""


def _last_place(view, word, text):
    """Return the last place of an item with a word, and with this text behind it unless it is None; -1 without one."""
    places = [at for at, item in enumerate(view) if item[0] == word and text in (None, item[-1])]
    return max(places, default=-1)


def _has_asked(view):
    """Return whether a process has asked and not sent since."""
    return _last_place(view, "tell", "ask") > _last_place(view, "send", None)


def _may_send(view):
    """Return whether a process has been told yes and has not sent since."""
    return _last_place(view, "told", "yes") > _last_place(view, "send", None)


def _has_promised(view):
    """Return whether a process has said yes and not read since."""
    return _last_place(view, "tell", "yes") > _last_place(view, "read", None)


def _unread(view):
    """Return the letters that have come and are not read."""
    done = [item[1] for item in view if item[0] == "read"]
    return [item[1] for item in view if item[0] == "come" and item[1] not in done]


def _unsent(view):
    """Return the pairs of a letter and its reader for the wished letters that have not been sent."""
    done = [item[1] for item in view if item[0] == "send"]
    return [(item[1], item[3]) for item in view if item[0] == "wish" and item[1] not in done]


def _waiting(view):
    """Return the processes that have asked and have no answer."""
    asked = [item[1] for item in view if item[0] == "told" and item[2] == "ask"]
    answered = [item[1] for item in view if item[0] == "tell" and item[2] == "yes"]
    return [name for name in asked if asked.count(name) > answered.count(name)]


def asked_step(view):
    """Return what a process does next by the asking talker."""
    if _has_promised(view):
        letters = _unread(view)
        return ("read", letters[0]) if letters else None
    left = _unsent(view)
    if _may_send(view):
        return ("send", left[0][0])
    has_asked = _has_asked(view)
    free = [name for name in _waiting(view) if not has_asked or name < view[0][1]]
    if free:
        return ("tell", free[0], "yes")
    return ("tell", left[0][1], "ask") if left and not has_asked else None
