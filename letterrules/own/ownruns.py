"""Own runs: runs in which letters are ahead of one another just as an own order asks."""

from letterrules.base.letters import is_name, new_names
from letterrules.base.renaming import renamed_event
from letterrules.errors import InvalidName, InvalidOperation
from letterrules.own.orders import OwnOrder, check_own_order, own_orders
from letterrules.rules.breaks import arrangement_of, is_placing
from letterrules.rules.patterns import check_rule
from letterrules.rules.search import fits
from letterrules.runs.runs import Run, check_run
from letterrules.runs.sets import check_among, is_in, lies_within

PLAIN = "plain"


def _are_kinds(pattern, value):
    """Return whether a value is a dict from letters of a pattern to kinds that they may have."""
    if not isinstance(value, dict):
        return False
    letters = pattern.letters
    if not all([name in letters for name in value]):
        return False
    return all([is_name(kind) and fits(letters[name], kind) for name, kind in value.items()])


def _kind_of(kinds):
    """Return the kind of a letter for which nothing else is asked."""
    return PLAIN if kinds is None else kinds[0]


def _homes(order):
    """Return the process of each event: one for each group, and one for each event in no group."""
    grouped = [event for group in order.pattern.groups for event in group]
    groups = [*order.pattern.groups, *[(event,) for event in order.events if event not in grouped]]
    return {event: process for group, process in zip(groups, new_names(len(groups))) for event in group}


def _helped_pairs(order, homes):
    """Return the next pairs that need a helper: nothing else would make the one event be ahead of the other."""
    return [
        (event, other) for event, other in order.next_pairs if event[1] != other[1] and homes[event] != homes[other]
    ]


def _row_of(order):
    """Return all events in a row in which each one stands in front of those behind it."""
    counts = {event: 0 for event in order.events}
    for _, event in order:
        counts[event] = counts[event] + 1
    # What is ahead of an event has fewer events ahead of it.
    return [event for _, event in sorted([(count, event) for event, count in counts.items()])]


class Helper:
    """A process that reads a letter sent behind an event, then sends one that is read in front of another event."""

    def __init__(self, pair, process, coming, going):
        self.event, self.target = pair
        self.process = process
        self.coming = coming
        self.going = going


def _helpers(order, homes):
    """Return the helpers of an own run with these processes."""
    pairs = _helped_pairs(order, homes)
    many = len(pairs)
    processes = new_names(many, without=tuple(homes.values()))
    names = new_names(2 * many, without=tuple(order.pattern))
    return [Helper(*parts) for parts in zip(pairs, processes, names[:many], names[many:])]


def _all_events(order, homes, helpers):
    """Return all events of the own run in a row, each with its process in front of it."""
    row = []
    for event in _row_of(order):
        home = homes[event]
        for helper in helpers:
            if helper.target == event:
                row.extend([(helper.process, ("send", helper.going)), (home, ("read", helper.going))])
        row.append((home, event))
        for helper in helpers:
            if helper.event == event:
                row.extend([(home, ("send", helper.coming)), (helper.process, ("read", helper.coming))])
    return row


def own_run(order, *, kinds=None, helper="other"):
    """Return an own run of an own order, with a placing in which the letters have their own names."""
    check_own_order(order)
    if kinds is not None and not _are_kinds(order.pattern, kinds):
        raise InvalidOperation("these are not kinds that the letters may have")
    if not is_name(helper):
        raise InvalidName("the kind of the helpers' letters is not a name")
    homes = _homes(order)
    helpers = _helpers(order, homes)
    letters = {}
    for name, told in order.pattern.letters.items():
        kind = _kind_of(told) if kinds is None else kinds.get(name, _kind_of(told))
        letters[name] = (kind, homes[("send", name)], homes[("read", name)])
    for one in helpers:
        letters[one.coming] = (helper, homes[one.event], one.process)
        letters[one.going] = (helper, one.process, homes[one.target])
    rows = {}
    for process, event in _all_events(order, homes, helpers):
        rows[process] = (*rows.get(process, ()), event)
    return (Run(letters, rows), {name: name for name in order.pattern})


def _is_ahead_as_in(run, order, placing):
    """Return whether placed events are ahead of one another exactly as in an own order."""
    pairs = [(event, other) for event in order.events for other in order.events]
    return all([
        run.ahead(renamed_event(event, placing), renamed_event(other, placing)) == order.ahead(event, other)
        for event, other in pairs
    ])


def is_own_run(order, value):
    """Return whether a value is a pair of an own run of an own order and a placing."""
    check_own_order(order)
    if not isinstance(value, tuple) or len(value) != 2 or not isinstance(value[0], Run):
        return False
    run, placing = value
    if not run.is_whole or not is_placing(run, order.pattern, placing):
        return False
    return is_in(run, order.run_set) and _is_ahead_as_in(run, order, placing)


def own_runs(rule, among):
    """Yield an own run of each own order whose set lies within a set: index, arrangement, run and placing."""
    check_rule(rule)
    check_among(among)
    for index, pattern in enumerate(rule.patterns):
        for order in own_orders(pattern):
            if lies_within(order.run_set, among):
                run, placing = own_run(order)
                yield (index, order.arrangement, run, placing)


def held_order(run, pattern, placing):
    """Return the own order that a run holds at least on the events of a placing."""
    return OwnOrder(pattern, arrangement_of(run, pattern, placing))


def is_held(run, order, value):
    """Return whether a value is a placing of letters that are read, by which a run has all pairs of an own order."""
    check_run(run)
    check_own_order(order)
    if not is_placing(run, order.pattern, value):
        return False
    if not all([("read", letter) in run for letter in value.values()]):
        return False
    return all([run.ahead(renamed_event(event, value), renamed_event(other, value)) for event, other in order])
