"""Rules that follow from others among the runs of a set, and what shows that they do or do not."""

from letterrules.base.letters import is_name, new_names
from letterrules.base.renaming import renamed_event
from letterrules.base.values import are_different, is_integer
from letterrules.errors import InvalidOperation, TooMany
from letterrules.own.orders import OwnOrder, are_together, own_orders, ring_in
from letterrules.own.ownruns import own_run
from letterrules.rules.breaks import has_placing, is_break
from letterrules.rules.parts import many_arrangements
from letterrules.rules.patterns import Rule, check_pattern, check_rule, is_index
from letterrules.runs.sets import check_among, is_in, lies_within

MAX_CASES = 2000


def _check_cases(patterns):
    """Refuse patterns with too many arrangements and choices."""
    for pattern in patterns:
        many = many_arrangements(pattern.groups)
        for kinds in pattern.letters.values():
            many = many * (1 if kinds is None else len(kinds))
        if many > MAX_CASES:
            raise TooMany(MAX_CASES)


def _choices(pattern):
    """Return all choices of a pattern, ascending."""
    rows = [()]
    for kinds in pattern.letters.values():
        rows = [(*row, kind) for row in rows for kind in ((None,) if kinds is None else kinds)]
    return rows


def _orders_within(rule, among):
    """Return the own orders of a rule whose sets lie within a set, by the index of the pattern and the arrangement."""
    found = {}
    for index, pattern in enumerate(rule.patterns):
        for order in own_orders(pattern):
            if lies_within(order.run_set, among):
                found[(index, order.arrangement)] = order
    return found


def cases(pattern, *, among="all"):
    """Yield all cases of a pattern in a set, ascending by arrangements, then by choices."""
    check_pattern(pattern)
    check_among(among)
    _check_cases((pattern,))
    choices = _choices(pattern)
    for order in own_orders(pattern):
        if lies_within(order.run_set, among):
            for choice in choices:
                yield (order.arrangement, choice)


def _holds(pattern, order, names):
    """Return whether conditions and groups hold in an own order for those letters of a pattern that have new names."""
    conditions = [pair for pair in pattern.conditions if pair[0][1] in names and pair[1][1] in names]
    if not all([order.ahead(renamed_event(one, names), renamed_event(other, names)) for one, other in conditions]):
        return False
    rows = [[renamed_event(event, names) for event in group if event[1] in names] for group in pattern.groups]
    return all([are_together(order, row[0], event) for row in rows for event in row])


def _rows_into(pattern, order):
    """Return the tuples of the values of all maps of a pattern into an own order, whatever the kinds, ascending."""
    names = []
    rows = [()]
    for name in pattern:
        names.append(name)
        longer = [(*row, letter) for row in rows for letter in order.pattern if letter not in row]
        rows = [row for row in longer if _holds(pattern, order, dict(zip(names, row)))]
    return rows


def _fits_choice(pattern, order, choice, row):
    """Return whether each letter of a pattern goes to one of a kind that it can have."""
    chosen = dict(zip(order.pattern, choice))
    return all([kinds is None or chosen[letter] in kinds for kinds, letter in zip(pattern.letters.values(), row)])


def _is_choice(pattern, value):
    """Return whether a value is a choice of a pattern."""
    if not isinstance(value, tuple) or len(value) != len(pattern):
        return False
    letters = pattern.letters
    return all([kind is None if kinds is None else kind in kinds for kinds, kind in zip(letters.values(), value)])


def maps(pattern, other, arrangement, choice):
    """Yield all maps of a pattern into a case of another one, ascending by the tuples of their values."""
    check_pattern(pattern)
    if ring_in(other, arrangement) is not None or not _is_choice(other, choice):
        raise InvalidOperation("this is no case of the pattern")
    order = OwnOrder(other, arrangement)
    for row in _rows_into(pattern, order):
        if _fits_choice(pattern, order, choice, row):
            yield dict(zip(pattern, row))


def _is_map(pattern, order, choice, value):
    """Return whether a value is a map of a pattern into a case of the pattern of an own order."""
    if not isinstance(value, dict) or len(value) != len(pattern) or not all([name in value for name in pattern]):
        return False
    row = [value[name] for name in pattern]
    letters = order.pattern.letters
    if not all([is_name(letter) and letter in letters for letter in row]) or not are_different(row):
        return False
    return _fits_choice(pattern, order, choice, row) and _holds(pattern, order, value)


def _maps_into(rule, order):
    """Return for each choice by which a pattern of a rule has a map into an own order: its index, and the map."""
    found = {}
    for index, pattern in enumerate(rule.patterns):
        left = [choice for choice in _choices(order.pattern) if choice not in found]
        rows = _rows_into(pattern, order) if left else []
        for choice in left:
            fitting = [row for row in rows if _fits_choice(pattern, order, choice, row)]
            if fitting:
                found[choice] = (index, dict(zip(pattern, fitting[0])))
    return found


def _parting(rule, other, index, order, choice):
    """Return the paper with the own run of a case into which no pattern of the rule has a map."""
    (unnamed,) = new_names(1, without=(*rule.kinds, *other.kinds))
    kinds = {name: unnamed if kind is None else kind for name, kind in zip(order.pattern, choice)}
    run, placing = own_run(order, kinds=kinds)
    return ("parted", run, index, placing)


def _paper(rule, other, among):
    """Return a paper of either form."""
    found = {}
    for (index, arrangement), order in _orders_within(other, among).items():
        mapped = _maps_into(rule, order)
        for choice in _choices(order.pattern):
            if choice not in mapped:
                return _parting(rule, other, index, order, choice)
            found[(index, arrangement, choice)] = mapped[choice]
    return ("follows", found)


def _follows(rule, other, among):
    """Return whether the other rule follows."""
    return _paper(rule, other, among)[0] == "follows"


def follow_paper(rule, other, *, among="all"):
    """Return a paper that the other rule follows from this one, or a run that tells them apart."""
    check_rule(rule)
    check_rule(other)
    check_among(among)
    _check_cases(other.patterns)
    return _paper(rule, other, among)


def _are_maps(rule, other, value, among):
    """Return whether a value is a dict with a map of a pattern of the rule into each case of the other one."""
    orders = _orders_within(other, among)
    if not isinstance(value, dict) or len(value) != sum([len(_choices(order.pattern)) for order in orders.values()]):
        return False
    for key, found in value.items():
        if not isinstance(key, tuple) or len(key) != 3 or not is_integer(key[0]) or key[:2] not in orders:
            return False
        order, choice = orders[key[:2]], key[2]
        if not _is_choice(order.pattern, choice) or not isinstance(found, tuple) or len(found) != 2:
            return False
        if not is_index(rule, found[0]) or not _is_map(rule[found[0]], order, choice, found[1]):
            return False
    return True


def _is_parting(rule, other, value, among):
    """Return whether a value is a run of a set that keeps the rule, with an index and a placing of the other one."""
    run, index, placing = value
    if not is_break(other, (index, run, placing)) or not is_in(run, among):
        return False
    return not any([has_placing(run, pattern) for pattern in rule.patterns])


def is_follow_paper(rule, other, value, *, among="all"):
    """Return whether a value is a paper of either form."""
    check_rule(rule)
    check_rule(other)
    check_among(among)
    _check_cases(other.patterns)
    if not isinstance(value, tuple) or len(value) not in (2, 4):
        return False
    if len(value) == 2:
        return value[0] == "follows" and _are_maps(rule, other, value[1], among)
    return value[0] == "parted" and _is_parting(rule, other, value[1:], among)


def follows(rule, other, *, among="all"):
    """Return whether the other rule follows from this one among the runs of a set."""
    return follow_paper(rule, other, among=among)[0] == "follows"


def are_alike(rule, other, *, among="all"):
    """Return whether each of two rules follows from the other one among the runs of a set."""
    check_rule(rule)
    check_rule(other)
    check_among(among)
    _check_cases((*rule.patterns, *other.patterns))
    return _follows(rule, other, among) and _follows(other, rule, among)


def _is_idle(rule, pattern, among):
    """Return whether a pattern can be left out of a rule with others."""
    return _follows(_without(rule, pattern), Rule(pattern), among)


def _without(rule, pattern):
    """Return a rule without one of its patterns."""
    return Rule.of(tuple([one for one in rule.patterns if one != pattern]))


def core(rule, *, among="all"):
    """Return a rule that is alike, with as few of the patterns as can be left."""
    check_rule(rule)
    check_among(among)
    _check_cases(rule.patterns)
    left = rule
    for pattern in rule.patterns:
        if len(left) > 1 and _is_idle(left, pattern, among):
            left = _without(left, pattern)
    return left


def _is_part(rule, value):
    """Return whether a value is a rule with patterns of a rule in their order."""
    return isinstance(value, Rule) and [one for one in rule.patterns if one in value] == list(value.patterns)


def is_core(rule, value, *, among="all"):
    """Return whether a value is such a rule."""
    check_rule(rule)
    check_among(among)
    _check_cases(rule.patterns)
    if not _is_part(rule, value) or not _follows(value, rule, among):
        return False
    return len(value) == 1 or not any([_is_idle(value, pattern, among) for pattern in value.patterns])


def idle_conditions(pattern):
    """Return the conditions, each of which can be left out alone, so that the pattern stays alike to this one."""
    check_pattern(pattern)
    _check_cases((pattern,))
    rule = Rule(pattern)
    return tuple([
        pair for pair in pattern.conditions if _follows(rule, Rule(pattern.without_condition(*pair)), "all")
    ])
