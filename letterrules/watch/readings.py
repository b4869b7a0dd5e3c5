"""Readings: in which order the unread letters of a run are read, so that it becomes whole."""

from letterrules.base.letters import are_names
from letterrules.base.orders import Order
from letterrules.runs.runs import Run
from letterrules.runs.sets import is_in


def _waiting(run):
    """Return the unread letters by their readers, both ascending."""
    letters = run.letters
    readers = sorted({letters[letter][2] for letter in run.unread})
    return {reader: tuple([letter for letter in run.unread if letters[letter][2] == reader]) for reader in readers}


def _must_be_first(run, among, letter, other):
    """Return whether no completion in a set reads a letter behind another one that waits for the same reader."""
    if among == "all" or not run.ahead(("send", letter), ("send", other)):
        return False
    return among != "pairs" or run.letters[letter][1] == run.letters[other][1]


def _order_at(run, among, letters):
    """Return the order in which letters that wait for one reader must be read in all completions in a set."""
    pairs = [(one, other) for one in letters for other in letters if _must_be_first(run, among, one, other)]
    return Order.of(letters, tuple(pairs))


def _likely_readings(run, among):
    """Return the readings of all completions in a set, and perhaps of others, ascending by their items."""
    rows = [{}]
    for reader, letters in _waiting(run).items():
        order = _order_at(run, among, letters)
        lines = list(order.lines())
        rows = [{**row, reader: line} for row in rows for line in lines]
    return rows


def completed(run, readings):
    """Return the whole run that goes on from a run by these readings."""
    rows = {}
    for process, row in run.rows.items():
        rows[process] = (*row, *[("read", letter) for letter in readings.get(process, ())])
    return Run(run.letters, rows)


def whole_runs(run, among):
    """Yield pairs of the readings of a completion in a set, ascending by their items, and its whole run."""
    for readings in _likely_readings(run, among):
        whole = completed(run, readings)
        if is_in(whole, among):
            yield (readings, whole)


def are_readings(run, value):
    """Return whether a value is the readings of a completion."""
    waiting = _waiting(run)
    if not isinstance(value, dict) or len(value) != len(waiting) or not all([reader in waiting for reader in value]):
        return False
    return all([are_names(row) and tuple(sorted(row)) == waiting[reader] for reader, row in value.items()])
