"""New names for what has a name already."""

from letterrules.errors import UnknownName


def refuse_unknown(names, known):
    """Refuse the least key of a dict that is none of the known names."""
    unknown = sorted([name for name in names if name not in known])
    if unknown:
        raise UnknownName(unknown[0])


def with_others(names, known):
    """Return the new name of each known name; those that have none stay."""
    return {name: names.get(name, name) for name in known}


def renamed_event(event, names):
    """Return the same event of the letter that has the new name."""
    word, name = event
    return (word, names[name])
