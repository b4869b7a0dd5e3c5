"""The four sets of whole runs, and what shows that a run is not in one of them."""

from letterrules.base.crowns import is_crown_of, least_crown
from letterrules.base.letters import is_name
from letterrules.base.values import are_different
from letterrules.errors import InvalidOperation
from letterrules.runs.runs import check_run

SETS = ("all", "pairs", "causal", "single")


def check_among(among):
    """Refuse what is none of the words for the sets."""
    if among not in SETS:
        raise InvalidOperation("this is none of the sets")


def lies_within(word, among):
    """Return whether the set with a word is another set or is contained in it."""
    return SETS.index(word) >= SETS.index(among)


def _check_whole(run):
    """Refuse what is not a whole run."""
    check_run(run)
    if not run.is_whole:
        raise InvalidOperation("a letter is not read")


def _is_pair(run, one, other):
    """Return whether two different letters are a pair: the second one overtakes the first one."""
    letters = run.letters
    if letters[one][1:] != letters[other][1:]:
        return False
    return run.ahead(("send", one), ("send", other)) and run.ahead(("read", other), ("read", one))


def _is_late(run, letter, event):
    """Return whether a letter is late by an event."""
    return run.ahead(("send", letter), event) and run.ahead(event, ("read", letter))


def _all_late(run):
    """Return all pairs of a letter and an event by which it is late."""
    return [(letter, event) for letter in run.letters for event in run.order if _is_late(run, letter, event)]


def _followers(run):
    """Return for each letter the other ones whose readings its sending is ahead of."""
    letters = run.letters
    followers = {}
    for one in letters:
        followers[one] = [
            other for other in letters if other != one and run.ahead(("send", one), ("read", other))
        ]
    return followers


def _pairs_in(run):
    """Return all pairs of a run, ascending."""
    letters = run.letters
    return tuple([(one, other) for one in letters for other in letters if _is_pair(run, one, other)])


def _bars(run, among):
    """Return one or more bars of the run and a word, or none if there are none."""
    if among == "pairs":
        return _pairs_in(run)
    if among == "causal":
        return _all_late(run)
    crown = least_crown(_followers(run)) if among == "single" else None
    return [] if crown is None else [crown]


def _are_letters(run, value):
    """Return whether a value is a tuple of letters of the run."""
    if not isinstance(value, tuple):
        return False
    letters = run.letters
    return all([is_name(part) and part in letters for part in value])


def _is_late_bar(run, value):
    """Return whether a value is a pair of a letter and an event by which it is late."""
    if not isinstance(value, tuple) or len(value) != 2:
        return False
    letter, event = value
    return _are_letters(run, (letter,)) and event in run and _is_late(run, letter, event)


def _is_bar(run, among, value):
    """Return whether a value is a bar of a whole run and a word."""
    if among == "causal":
        return _is_late_bar(run, value)
    if among == "all" or not _are_letters(run, value):
        return False
    if among == "single":
        return is_crown_of(_followers(run), value)
    return len(value) == 2 and _is_pair(run, value[0], value[1])


def set_of(run):
    """Return the word for the last set in which a whole run is."""
    _check_whole(run)
    return [word for word in SETS if not _bars(run, word)][-1]


def is_in(run, among):
    """Return whether a whole run is in a set."""
    return bar(run, among) is None


def bar(run, among):
    """Return a bar of a whole run and a word, or None if the run is in the set."""
    _check_whole(run)
    check_among(among)
    bars = _bars(run, among)
    return bars[0] if bars else None


def is_bar(run, among, value):
    """Return whether a value is a bar of a whole run and a word."""
    _check_whole(run)
    check_among(among)
    return _is_bar(run, among, value)


def next_bar(run, among, value):
    """Return the bar of the next set that follows from a bar."""
    if not is_bar(run, among, value):
        raise InvalidOperation("this is not a bar of the run and the set")
    if among == "single":
        raise InvalidOperation("no set comes behind this one")
    one, other = value
    return (one, ("read", other)) if among == "pairs" else (one, other[1])


def late_letters(run):
    """Return all letters that are late in a whole run, ascending."""
    _check_whole(run)
    return tuple(sorted({letter for letter, _ in _all_late(run)}))


def all_pairs(run):
    """Return all pairs of a whole run, ascending."""
    _check_whole(run)
    return _pairs_in(run)


def shortest_crown(run):
    """Return a crown of a whole run with the fewest letters, or None."""
    _check_whole(run)
    return least_crown(_followers(run))


def letter_row(run):
    """Return a letter row of a whole run, or None if it has a crown."""
    _check_whole(run)
    followers = _followers(run)
    row = []
    while len(row) < len(followers):
        left = [letter for letter in followers if letter not in row]
        barred = {other: True for letter in left for other in followers[letter]}
        free = [letter for letter in left if letter not in barred]
        if not free:
            return None
        row.extend(free)
    return tuple(row)


def is_letter_row(run, value):
    """Return whether a value is a letter row of a whole run."""
    _check_whole(run)
    if not _are_letters(run, value) or len(value) != len(run) or not are_different(value):
        return False
    followers = _followers(run)
    places = {letter: at for at, letter in enumerate(value)}
    return all([places[letter] < places[other] for letter in value for other in followers[letter]])
