"""Crowns, by the followers of letters: the other letters whose readings the sending of each one is ahead of."""

from letterrules.base.values import are_different


def is_crown_of(followers, value):
    """Return whether a tuple of letters with followers is a crown."""
    if len(value) < 2 or not are_different(value):
        return False
    behind = [*value[1:], value[0]]
    return all([other in followers[one] for one, other in zip(value, behind)])


def _crown_from(followers, first):
    """Return the least crown that begins with a letter, of those with the fewest letters, or None."""
    paths = [(first,)]
    seen = {}
    while paths:
        longer = []
        for path in paths:
            for letter in followers[path[-1]]:
                if letter == first:
                    return path
                if letter not in seen:
                    seen[letter] = True
                    longer.append((*path, letter))
        paths = longer
    return None


def least_crown(followers):
    """Return the least of the crowns with the fewest letters, or None; letters and followers are ascending."""
    crowns = [_crown_from(followers, letter) for letter in followers]
    return min([crown for crown in crowns if crown is not None], key=len, default=None)
