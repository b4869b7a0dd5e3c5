"""Runs that break patterns and rules."""

from letterrules.base.letters import is_name
from letterrules.base.renaming import renamed_event
from letterrules.base.values import are_different
from letterrules.errors import InvalidOperation
from letterrules.rules.patterns import check_pattern, check_rule, is_index
from letterrules.rules.search import Search, check_choices, fits
from letterrules.runs.runs import Run, check_run


def placings(run, pattern):
    """Yield all placings of a pattern in a run, ascending by the tuples of their values."""
    check_run(run)
    check_pattern(pattern)
    check_choices(run, (pattern,))
    search = Search(run, pattern)
    for row in search.rows_from((), search.first_masks):
        yield search.placing(row)


def _is_choice(run, pattern, value):
    """Return whether a value is a dict from the letters of a pattern to different letters of the run."""
    if not isinstance(value, dict) or len(value) != len(pattern):
        return False
    if not all([name in value for name in pattern]):
        return False
    letters = run.letters
    chosen = list(value.values())
    return all([is_name(letter) and letter in letters for letter in chosen]) and are_different(chosen)


def _placed(rows, placing):
    """Return the events of the run that stand for those of some tuples."""
    return [[renamed_event(event, placing) for event in row] for row in rows]


def _holds(run, pattern, choice):
    """Return whether all that a pattern tells holds for a choice of letters."""
    letters = run.letters
    if not all([fits(kinds, letters[choice[name]][0]) for name, kinds in pattern.letters.items()]):
        return False
    conditions = _placed(pattern.conditions, choice)
    groups = _placed(pattern.groups, choice)
    if not all([event in run for row in (*conditions, *groups) for event in row]):
        return False
    if not all([run.ahead(one, other) for one, other in conditions]):
        return False
    return all([run.place(event)[0] == run.place(group[0])[0] for group in groups for event in group])


def is_placing(run, pattern, value):
    """Return whether a value is a placing of a pattern in a run."""
    check_run(run)
    check_pattern(pattern)
    return _is_choice(run, pattern, value) and _holds(run, pattern, value)


def is_break(rule, value):
    """Return whether a value tells the index of a pattern, a whole run, and a placing of the pattern in it."""
    if not isinstance(value, tuple) or len(value) != 3:
        return False
    index, run, placing = value
    if not is_index(rule, index) or not isinstance(run, Run) or not run.is_whole:
        return False
    return is_placing(run, rule[index], placing)


def _check_both(run, rule):
    """Refuse what is not a run and a rule with few enough choices."""
    check_run(run)
    check_rule(rule)
    check_choices(run, rule.patterns)


def breaks(run, rule):
    """Return whether a run breaks a rule."""
    return first_break(run, rule) is not None


def has_placing(run, pattern):
    """Return whether a pattern has a placing in a run, however many choices of letters there are."""
    search = Search(run, pattern)
    for _ in search.rows_from((), search.first_masks):
        return True
    return False


def first_break(run, rule):
    """Return the index of the first pattern that a run breaks with its first placing, or None."""
    _check_both(run, rule)
    for index, pattern in enumerate(rule.patterns):
        search = Search(run, pattern)
        for row in search.rows_from((), search.first_masks):
            return (index, search.placing(row))
    return None


def broken_patterns(run, rule):
    """Return the numbers of placings by the indices of the patterns that a run breaks."""
    _check_both(run, rule)
    found = {}
    for index, pattern in enumerate(rule.patterns):
        search = Search(run, pattern)
        many = search.many_from(0, search.first_masks)
        if many > 0:
            found[index] = many
    return found


def arrangement_of(run, pattern, placing):
    """Return the arrangement of a pattern by a placing."""
    if not is_placing(run, pattern, placing):
        raise InvalidOperation("this is not a placing of the pattern in the run")
    orders = []
    for group in pattern.groups:
        spots = [(run.place(renamed_event(event, placing)), event) for event in group]
        orders.append(tuple([event for _, event in sorted(spots)]))
    return tuple(orders)


def blamed(run, rule):
    """Return all letters of a run that are values of placings of a rule, ascending."""
    _check_both(run, rule)
    letters = []
    for pattern in rule.patterns:
        search = Search(run, pattern)
        letters.extend(search.letters_in(search.used_from(0, search.first_masks)))
    return tuple(sorted(set(letters)))
