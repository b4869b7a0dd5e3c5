"""Watchers: they are told a run event by event, and tell when a rule is surely broken."""

from letterrules.base.letters import is_letter, is_name
from letterrules.base.trials import Trial
from letterrules.base.values import is_integer
from letterrules.errors import InvalidNumber, InvalidOperation, InvalidRun, NothingToUndo, TooMany
from letterrules.rules.breaks import first_break, is_placing
from letterrules.rules.patterns import check_rule, is_index
from letterrules.rules.search import check_choices
from letterrules.runs.runs import Run, check_run
from letterrules.runs.sets import check_among, is_in
from letterrules.watch.readings import are_readings, completed, whole_runs

MAX_UNREAD = 6


def _check_unread(run):
    """Refuse a run with too many unread letters."""
    if len(run.unread) > MAX_UNREAD:
        raise TooMany(MAX_UNREAD)


def completions(run, *, among="all"):
    """Yield the readings of all completions of a run in a set, ascending by their items."""
    check_run(run)
    check_among(among)
    _check_unread(run)
    for readings, _ in whole_runs(run, among):
        yield readings


def _has_completion(run, among):
    """Return whether a run has a completion in a set."""
    for _ in whole_runs(run, among):
        return True
    return False


def _check_watched(run, rule, among):
    """Refuse a run that cannot be watched, of those that a watch paper can be asked of."""
    _check_unread(run)
    if not _has_completion(run, among):
        raise InvalidOperation("no completion of the run is in the set")
    check_choices(run, rule.patterns)


def _paper(run, rule, among):
    """Return a watch paper."""
    _check_watched(run, rule, among)
    found = first_break(run, rule)
    if found is not None:
        return ("broken", *found)
    rows = []
    for readings, whole in whole_runs(run, among):
        found = first_break(whole, rule)
        if found is None:
            return ("open", readings)
        index, placing = found
        rows.append((tuple(readings.items()), index, tuple(placing.values())))
    return ("sure", tuple(rows))


def watch_paper(run, rule, *, among="all"):
    """Return a watch paper: a placing, a completion that keeps the rule, or how each completion breaks it."""
    check_run(run)
    check_rule(rule)
    check_among(among)
    return _paper(run, rule, among)


def _is_broken(run, rule, value):
    """Return whether a value tells a pattern of a rule and a placing of it in a run, behind a word."""
    if len(value) != 3 or value[0] != "broken" or not is_index(rule, value[1]):
        return False
    return is_placing(run, rule[value[1]], value[2])


def _is_open(run, rule, among, value):
    """Return whether a value is the readings of a completion in a set that keeps a rule."""
    if not are_readings(run, value):
        return False
    whole = completed(run, value)
    return is_in(whole, among) and first_break(whole, rule) is None


def _is_row(whole, rule, readings, value):
    """Return whether a value tells a completion with these readings, and a placing in it."""
    if not isinstance(value, tuple) or len(value) != 3:
        return False
    orders, index, names = value
    if orders != tuple(readings.items()) or not is_index(rule, index) or not isinstance(names, tuple):
        return False
    pattern = rule[index]
    return len(names) == len(pattern) and is_placing(whole, pattern, dict(zip(pattern, names)))


def _are_rows(run, rule, among, value):
    """Return whether a value tells a placing in each completion in a set."""
    found = list(whole_runs(run, among))
    if not isinstance(value, tuple) or len(value) != len(found):
        return False
    return all([_is_row(whole, rule, readings, row) for (readings, whole), row in zip(found, value)])


def is_watch_paper(run, rule, value, *, among="all"):
    """Return whether a value is a watch paper."""
    check_run(run)
    check_rule(rule)
    check_among(among)
    _check_watched(run, rule, among)
    if not isinstance(value, tuple) or len(value) not in (2, 3):
        return False
    if first_break(run, rule) is not None:
        return _is_broken(run, rule, value)
    if len(value) != 2 or value[0] not in ("open", "sure"):
        return False
    return _is_open(run, rule, among, value[1]) if value[0] == "open" else _are_rows(run, rule, among, value[1])


def _copied(paper):
    """Return a watch paper with a dict of its own."""
    if paper[0] == "open":
        return ("open", dict(paper[1]))
    return (*paper[:2], dict(paper[2])) if paper[0] == "broken" else paper


def _run_behind(run, event):
    """Return the run with one event more; refuse what is no such event."""
    word, name, *parts = event
    letters, rows = run.letters, run.rows
    if word == "send" and is_name(name) and name not in letters and is_letter(tuple(parts)):
        letters[name] = tuple(parts)
    elif word == "send" or name not in run.unread:
        raise InvalidRun("there is no run with this event")
    process = letters[name][1 if word == "send" else 2]
    rows[process] = (*rows.get(process, ()), (word, name))
    try:
        return Run(letters, rows)
    except TooMany:
        raise InvalidRun("there is no run with so many letters or processes") from None


class WatchState:
    """What a watcher was told, event by event, and what it found behind that. A state never changes.

    `so_far` is the run, `found` the watch paper, `turned` behind how many events it was first another one than "open".
    """

    def __init__(self, so_far, found, *, before=None, done=(), turned=None):
        self.so_far = so_far
        self.found = found
        self.before = before
        self.done = done
        self.turned = turned


class Watcher:
    """A rule, and the run that is told event by event."""

    def __init__(self, rule, *, among="all"):
        check_rule(rule)
        check_among(among)
        self._rule = rule
        self._among = among
        self._state = WatchState(Run({}, {}), ("open", {}))

    @property
    def rule(self):
        """The rule."""
        return self._rule

    @property
    def among(self):
        """The word for the set."""
        return self._among

    @property
    def paper(self):
        """A watch paper of the run so far."""
        return _copied(self._state.found)

    @property
    def verdict(self):
        """The first word of the paper."""
        return self._state.found[0]

    @property
    def since(self):
        """Behind how many events the verdict was first another one than "open", or None."""
        return self._state.turned

    def send(self, name, kind, sender, reader):
        """Tell that a letter is sent, and return the verdict."""
        return self._take(("send", name, kind, sender, reader))

    def read(self, name):
        """Tell that a letter is read, and return the verdict."""
        return self._take(("read", name))

    def run(self):
        """Return the run so far."""
        return self._state.so_far

    def undo(self, many=1):
        """Take events back, and return how many are left."""
        if not is_integer(many) or many < 0:
            raise InvalidNumber(many)
        if many > len(self):
            raise NothingToUndo(many)
        state = self._state
        for _ in range(many):
            state = state.before
        self._state = state
        return len(self)

    def trial(self):
        """Return a block in which events can be told, and behind which all is as before."""
        return Trial(self)

    def attempt(self, action):
        """Return what a function of the watcher returns in such a block."""
        with self.trial() as same:
            return action(same)

    def twin(self):
        """Return an independent equal watcher."""
        made = Watcher(self._rule, among=self._among)
        made._state = self._state
        return made

    def with_rule(self, rule):
        """Return the watcher of this rule and another one that is told the same events."""
        check_rule(rule)
        made = Watcher(self._rule | rule, among=self._among)
        events = list(self._state.done)
        for event in events:
            made._take(event)
        return made

    def __len__(self):
        return len(self._state.done)

    def __eq__(self, other):
        if not isinstance(other, Watcher) or self._rule != other._rule or self._among != other._among:
            return False
        return self._state.done == other._state.done

    def __str__(self):
        return f"watcher of {len(self)} events, {self.verdict}"

    def _take(self, event):
        """Take in one event behind the others, and return the verdict."""
        state = self._state
        run = _run_behind(state.so_far, event)
        found = _paper(run, self._rule, self._among)
        done = (*state.done, event)
        turned = state.turned
        if turned is None and found[0] != "open":
            turned = len(done)
        self._state = WatchState(run, found, before=state, done=done, turned=turned)
        return self.verdict
