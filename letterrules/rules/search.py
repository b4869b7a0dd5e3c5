"""The search for the placings of a pattern in a run.

Letters of the run are told by their places among its ascending names, sets of them by masks of places. A row tells
the places of those in which the first letters of the pattern, ascending, are placed.
"""

from letterrules.base.masks import places_in
from letterrules.errors import TooMany

MAX_CHOICES = 1000000


def fits(kinds, kind):
    """Return whether a letter of this kind can be placed where a pattern tells these kinds."""
    return kind != "other" if kinds is None else kind in kinds


def check_choices(run, patterns):
    """Refuse a run and patterns with too many choices of letters of the right kinds."""
    kinds = [letter[0] for letter in run.letters.values()]
    for pattern in patterns:
        many = 1
        for told in pattern.letters.values():
            many = many * len([kind for kind in kinds if fits(told, kind)])
        if many > MAX_CHOICES:
            raise TooMany(MAX_CHOICES)


def _fitting_letters(run, pattern, name):
    """Return the letters of the run that have what the pattern asks of this one of its letters alone."""
    kinds = pattern.letters[name]
    rows = (*pattern.conditions, *pattern.groups)
    words = [word for row in rows for word, owner in row if owner == name]
    own = [(one[0], other[0]) for one, other in pattern.conditions if one[1] == name and other[1] == name]
    fitting = []
    for letter, (kind, _, _) in run.letters.items():
        if fits(kinds, kind) and all([(word, letter) in run for word in words]):
            if all([run.ahead((word, letter), (last, letter)) for word, last in own]):
                fitting.append(letter)
    return fitting


def _steps_between(pattern, one, other):
    """Return the words of the events of the conditions from one letter of a pattern to another one."""
    return [(first[0], last[0]) for first, last in pattern.conditions if (first[1], last[1]) == (one, other)]


def _bonds_between(pattern, one, other):
    """Return the words of the events of two letters of a pattern that must be at one process."""
    bonds = []
    for group in pattern.groups:
        bonds.extend([(first[0], last[0]) for first in group for last in group if (first[1], last[1]) == (one, other)])
    return bonds


def _steps_hold(run, steps, one, other):
    """Return whether these events of one letter of the run are ahead of those of another one."""
    return all([run.ahead((word, one), (last, other)) for word, last in steps])


def _bonds_hold(run, bonds, one, other):
    """Return whether these events of two letters of the run are at one process."""
    return all([run.place((word, one))[0] == run.place((last, other))[0] for word, last in bonds])


class Search:
    """A pattern and a run in which it is placed.

    The letters of the pattern are told by their places among its ascending names. Behind some of them that are placed,
    `masks` has for each further one the mask of the letters of the run that it can have.
    """

    def __init__(self, run, pattern):
        self._run = run
        self._pattern = pattern
        self._names = tuple(pattern)
        self._letters = tuple(run.letters)
        self._places = {letter: at for at, letter in enumerate(self._letters)}
        self._fitting = [_fitting_letters(run, pattern, name) for name in self._names]
        self._mates = [
            [self._mates_of(one, other) for other in range(len(self._names))] for one in range(len(self._names))
        ]
        self.first_masks = [self._mask_of(letters) for letters in self._fitting]

    def rows_from(self, head, masks):
        """Yield all rows that begin with these places, ascending."""
        is_last = len(masks) == 1
        for at in places_in(masks[0]):
            row = (*head, at)
            if is_last:
                yield row
            else:
                behind = self._masks_behind(len(head), at, masks)
                yield from self.rows_from(row, behind)

    def many_from(self, first, masks):
        """Return the number of rows from the first letter of the pattern on that is not placed."""
        places = places_in(masks[0])
        if len(masks) == 1:
            return len(places)
        return sum([self.many_from(first + 1, self._masks_behind(first, at, masks)) for at in places])

    def used_from(self, first, masks):
        """Return the mask of all places in these rows."""
        if len(masks) == 1:
            return masks[0]
        used = 0
        for at in places_in(masks[0]):
            behind = self.used_from(first + 1, self._masks_behind(first, at, masks))
            if behind:
                used = used | behind | (1 << at)
        return used

    def placing(self, row):
        """Return the placing that a whole row tells."""
        return {name: self._letters[at] for name, at in zip(self._names, row)}

    def letters_in(self, mask):
        """Return the letters of the run with the places of a mask."""
        return [self._letters[at] for at in places_in(mask)]

    def _mask_of(self, letters):
        """Return the mask of the places of letters of the run."""
        mask = 0
        for letter in letters:
            mask = mask | (1 << self._places[letter])
        return mask

    def _mates_of(self, one, other):
        """Return, by the places of a letter of the pattern, the masks of those that another one can have then."""
        if one >= other:
            return {}
        steps = _steps_between(self._pattern, self._names[one], self._names[other])
        turned = _steps_between(self._pattern, self._names[other], self._names[one])
        bonds = _bonds_between(self._pattern, self._names[one], self._names[other])
        mates = {}
        for letter in self._fitting[one]:
            good = [
                mate for mate in self._fitting[other] if mate != letter
                and _steps_hold(self._run, steps, letter, mate) and _steps_hold(self._run, turned, mate, letter)
                and _bonds_hold(self._run, bonds, letter, mate)
            ]
            mates[self._places[letter]] = self._mask_of(good)
        return mates

    def _masks_behind(self, first, at, masks):
        """Return the masks behind the first letter in this place; one empty mask if some letter has no place left."""
        mates = self._mates[first]
        behind = [mask & mates[first + far][at] for far, mask in enumerate(masks) if far > 0]
        return behind if all(behind) else [0]
