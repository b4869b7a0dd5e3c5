"""The answers to rules: by which sort of transports they can be kept; and papers that show it."""

from letterrules.errors import InvalidOperation
from letterrules.own.orders import (
    OwnOrder, crown_in, is_crown_in, is_late_in, is_pair_in, is_ring_in, late_in, own_orders, pair_in, ring_in,
)
from letterrules.own.ownruns import own_runs
from letterrules.rules.breaks import is_break
from letterrules.rules.patterns import arrangements, check_pattern, check_rule, is_arrangement, is_index
from letterrules.runs.sets import SETS, check_among, is_in

ANSWERS = ("nothing", "numbers", "notes", "letters", "never")


def _level(pattern):
    """Return the position of the answer to a pattern."""
    return max([SETS.index(order.run_set) + 1 for order in own_orders(pattern)], default=0)


def _levels(rule):
    """Return the positions of the answers to the patterns of a rule."""
    return [_level(pattern) for pattern in rule.patterns]


def answer(rule):
    """Return the answer to a rule."""
    check_rule(rule)
    return ANSWERS[max(_levels(rule))]


def pattern_answer(pattern):
    """Return the answer to the rule that forbids a pattern alone."""
    return ANSWERS[_level(pattern)]


def _reason(pattern, arrangement, among):
    """Return a reason why no run of a set breaks a pattern by an arrangement, or None."""
    ring = ring_in(pattern, arrangement)
    if ring is not None:
        return ("ring", ring)
    order = OwnOrder(pattern, arrangement)
    if among == "single":
        crown = crown_in(order)
        return None if crown is None else ("crown", crown)
    if among == "causal":
        late = late_in(order)
        return None if late is None else ("late", *late)
    pair = pair_in(order) if among == "pairs" else None
    return None if pair is None else ("pair", *pair)


def _is_reason(pattern, arrangement, among, value):
    """Return whether a value is such a reason."""
    if not isinstance(value, tuple) or not value:
        return False
    if value[0] == "ring":
        return len(value) == 2 and is_ring_in(pattern, arrangement, value[1])
    if ring_in(pattern, arrangement) is not None:
        return False
    order = OwnOrder(pattern, arrangement)
    if among == "single":
        return len(value) == 2 and value[0] == "crown" and is_crown_in(order, value[1])
    if among == "causal":
        return value[0] == "late" and is_late_in(order, value[1:])
    return among == "pairs" and value[0] == "pair" and is_pair_in(order, value[1:])


def _keys(rule):
    """Return the pairs of the index of a pattern and an arrangement of it, ascending."""
    return [(index, row) for index, pattern in enumerate(rule.patterns) for row in arrangements(pattern)]


def _is_key(rule, value):
    """Return whether a value is such a pair."""
    if not isinstance(value, tuple) or len(value) != 2:
        return False
    index, arrangement = value
    return is_index(rule, index) and is_arrangement(rule[index], arrangement)


def kept_paper(rule, among):
    """Return a reason for each arrangement of each pattern, or None if one has none."""
    check_rule(rule)
    check_among(among)
    paper = {(index, row): _reason(rule[index], row, among) for index, row in _keys(rule)}
    return None if any([reason is None for reason in paper.values()]) else paper


def is_kept_paper(rule, among, value):
    """Return whether a value is a kept paper of a rule and a set."""
    check_rule(rule)
    check_among(among)
    if not isinstance(value, dict) or not all([_is_key(rule, key) for key in value]):
        return False
    if len(value) != len(_keys(rule)):
        return False
    return all([_is_reason(rule[index], row, among, reason) for (index, row), reason in value.items()])


def breaking_paper(rule, among):
    """Return a run of a set with a placing of a pattern of the rule, behind its index; or None."""
    for index, _, run, placing in own_runs(rule, among):
        return (index, run, placing)
    return None


def is_breaking_paper(rule, among, value):
    """Return whether a value is a breaking paper of a rule and a set."""
    check_rule(rule)
    check_among(among)
    return is_break(rule, value) and is_in(value[1], among)


def answer_paper(rule):
    """Return the answer with a kept paper for its set and a breaking paper for the set in front of it."""
    found = answer(rule)
    level = ANSWERS.index(found)
    kept = kept_paper(rule, SETS[level]) if level < len(SETS) else None
    breaking = breaking_paper(rule, SETS[level - 1]) if level > 0 else None
    return (found, kept, breaking)


def is_answer_paper(rule, value):
    """Return whether a value is an answer paper of a rule."""
    check_rule(rule)
    if not isinstance(value, tuple) or len(value) != 3 or value[0] not in ANSWERS:
        return False
    found, kept, breaking = value
    level = ANSWERS.index(found)
    is_kept = is_kept_paper(rule, SETS[level], kept) if level < len(SETS) else kept is None
    return is_kept and (is_breaking_paper(rule, SETS[level - 1], breaking) if level > 0 else breaking is None)


def hardest(rule):
    """Return the indices of the patterns whose answer is that to the rule, ascending."""
    check_rule(rule)
    levels = _levels(rule)
    return tuple([index for index, level in enumerate(levels) if level == max(levels)])


def answers_without(pattern):
    """Return the answers to a pattern without one of its conditions, or one of its groups."""
    check_pattern(pattern)
    found = {}
    for condition in pattern.conditions:
        found[("condition", condition)] = pattern_answer(pattern.without_condition(*condition))
    for group in pattern.groups:
        found[("group", group)] = pattern_answer(pattern.without_group(group[0]))
    return found


def needed(pattern):
    """Return the conditions and groups without which the answer to a pattern is greater."""
    least = ANSWERS.index(pattern_answer(pattern))
    return tuple([key for key, found in answers_without(pattern).items() if ANSWERS.index(found) > least])


def sort_for(among):
    """Return the sort of transports that make only runs of a set."""
    check_among(among)
    return ANSWERS[SETS.index(among)]


def set_for(sort):
    """Return the set whose runs a sort of transports makes."""
    if sort not in ANSWERS[:len(SETS)]:
        raise InvalidOperation("this is no sort of transports")
    return SETS[ANSWERS.index(sort)]
