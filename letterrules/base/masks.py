"""Sets of places as masks: the mask of some places is the integer with exactly these bits.

The heads of some pairs of places are a list with the mask, for each place, of those directly ahead of it.
"""


def places_in(mask):
    """Return the places of a mask, ascending."""
    return [at for at in range(mask.bit_length()) if (mask >> at) & 1]


def heads_of(many, pairs):
    """Return the heads of these pairs of the places from 0 on."""
    heads = [0 for _ in range(many)]
    for one, other in pairs:
        heads[other] = heads[other] | (1 << one)
    return heads


def closed(heads):
    """Return for each place the mask of those ahead of it, in any number of steps."""
    many = len(heads)
    pasts = list(heads)
    for middle in range(many):
        for at in range(many):
            if (pasts[at] >> middle) & 1:
                pasts[at] = pasts[at] | pasts[middle]
    return pasts


def ring_places(heads, pasts):
    """Return a ring as a list of places, or None if no place is ahead of itself."""
    left = 0
    for at, past in enumerate(pasts):
        left = left | (past & (1 << at))
    if left == 0:
        return None
    # A place in a ring has one directly ahead of it that is in a ring, so this walk back meets itself.
    walk = []
    at = places_in(left)[0]
    while at not in walk:
        walk.append(at)
        at = places_in(heads[at] & left)[0]
    ring = walk[walk.index(at):]
    return ring[::-1]
