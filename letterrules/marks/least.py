"""The least markings that keep a rule, and the runs that show that a marking does not."""

from letterrules.base.letters import is_name, new_names
from letterrules.base.values import are_different, is_integer
from letterrules.errors import InvalidOperation, TooMany
from letterrules.marks.known import WORDS, Marking, check_marking, is_calm
from letterrules.own.orders import are_together, check_own_order, is_late_in, own_orders
from letterrules.own.ownruns import own_run
from letterrules.rules.breaks import is_break
from letterrules.rules.patterns import check_rule, is_index

MAX_NAMED = 8


def _is_in_front(order, event, other):
    """Return whether two events are in one group, the first one in front of the other one."""
    return order.ahead(event, other) and are_together(order, event, other)


def _is_late_letter(order, letter):
    """Return whether a letter is late."""
    return any([is_late_in(order, (letter, event)) for event in order.events])


def _chains(order, letter):
    """Return the letters of all ways with "row" of a letter, ascending."""
    names = [name for name in order.pattern if name != letter]
    found = []
    rows = [(name,) for name in names if _is_in_front(order, ("send", letter), ("send", name))]
    while rows:
        found.extend([row for row in rows if _is_in_front(order, ("read", row[-1]), ("read", letter))])
        rows = [
            (*row, name) for row in rows for name in names
            if name not in row and _is_in_front(order, ("read", row[-1]), ("send", name))
        ]
    return sorted(found)


def ways(order):
    """Yield all ways of an own order: those with "late", then those with "row", each ascending."""
    check_own_order(order)
    for letter in order.pattern:
        if _is_late_letter(order, letter):
            yield ("late", letter)
    for letter in order.pattern:
        for row in _chains(order, letter):
            yield ("row", letter, row)


def _is_chain(order, letter, row):
    """Return whether a letter and a tuple of values are those of a way with "row"."""
    names = order.pattern.letters
    if not isinstance(row, tuple) or not row or not all([is_name(name) and name in names for name in (letter, *row)]):
        return False
    if not are_different((letter, *row)) or not _is_in_front(order, ("send", letter), ("send", row[0])):
        return False
    if not _is_in_front(order, ("read", row[-1]), ("read", letter)):
        return False
    return all([_is_in_front(order, ("read", one), ("send", other)) for one, other in zip(row, row[1:])])


def is_way(order, value):
    """Return whether a value is a way of an own order."""
    check_own_order(order)
    if not isinstance(value, tuple) or len(value) not in (2, 3):
        return False
    if len(value) == 3:
        return value[0] == "row" and _is_chain(order, value[1], value[2])
    return value[0] == "late" and _is_late_letter(order, value[1])


def _marked(kinds, word):
    """Return the least marking by which letters of these kinds, or of all kinds, carry what a word tells."""
    return Marking.even(word) if kinds is None else Marking.of({kind: word for kind in kinds})


def demand(order, way):
    """Return the least marking by which a way of an own order keeps its pattern from being placed so."""
    if not is_way(order, way):
        raise InvalidOperation("this is not a way of the own order")
    if way[0] == "late":
        return Marking.even("notes")
    letters = order.pattern.letters
    first, *others = way[2]
    least = _marked(letters[first], "numbers")
    for letter in others:
        least = least | _marked(letters[letter], "notes")
    return least


def _orders_of(rule):
    """Return all own orders of a rule by the index of the pattern and the arrangement."""
    found = {}
    for index, pattern in enumerate(rule.patterns):
        for order in own_orders(pattern):
            found[(index, order.arrangement)] = order
    return found


def _is_enough(order, way, marking):
    """Return whether the demand of a way is at most a marking."""
    return demand(order, way).is_at_most(marking)


def _way_within(order, marking):
    """Return a way whose demand is at most a marking, or None."""
    for way in ways(order):
        if _is_enough(order, way, marking):
            return way
    return None


def _check_both(rule, marking):
    """Refuse what is not a rule and a marking."""
    check_rule(rule)
    check_marking(marking)


def keeps(rule, marking):
    """Return whether a marking keeps a rule."""
    return keeping_paper(rule, marking) is not None


def keeping_paper(rule, marking):
    """Return a way for each own order whose demand is at most a marking, or None if some order has none."""
    _check_both(rule, marking)
    paper = {}
    for key, order in _orders_of(rule).items():
        way = _way_within(order, marking)
        if way is None:
            return None
        paper[key] = way
    return paper


def is_keeping_paper(rule, marking, value):
    """Return whether a value is a keeping paper of a rule and a marking."""
    _check_both(rule, marking)
    orders = _orders_of(rule)
    if not isinstance(value, dict) or len(value) != len(orders) or not all([key in orders for key in value]):
        return False
    # An index that is a boolean is equal to an integer, but it is none.
    if not all([is_index(rule, index) for index, _ in value]):
        return False
    return all([is_way(orders[key], way) and _is_enough(orders[key], way, marking) for key, way in value.items()])


def _least_of(marking, kinds):
    """Return the first one of some kinds of those that carry least."""
    return min(kinds, key=lambda kind: WORDS.index(marking.word_of(kind)))


def _calm_run(order, marking):
    """Return an own run in which all letters carry as little as they can, and its placing."""
    (unnamed,) = new_names(1, without=marking.kinds)
    free = (unnamed, *marking.kinds)
    kinds = {}
    for name, told in order.pattern.letters.items():
        kinds[name] = _least_of(marking, free if told is None else told)
    return own_run(order, kinds=kinds, helper=_least_of(marking, ("other", *marking.kinds)))


def breaking_run(rule, marking):
    """Return a calm run with a placing of a pattern of the rule, behind its index; None if the marking keeps it."""
    _check_both(rule, marking)
    for (index, _), order in _orders_of(rule).items():
        if _way_within(order, marking) is None:
            run, placing = _calm_run(order, marking)
            return (index, run, placing)
    return None


def is_breaking_run(rule, marking, value):
    """Return whether a value is such a tuple."""
    _check_both(rule, marking)
    return is_break(rule, value) and is_calm(value[1], marking)


def _check_named(kinds):
    """Refuse too many kinds that are named."""
    if len(kinds) > MAX_NAMED:
        raise TooMany(MAX_NAMED)


def _levels_of(marking, kinds):
    """Return the positions of the words that a marking gives some kinds."""
    return tuple([WORDS.index(marking.word_of(kind)) for kind in kinds])


def _is_below(row, other):
    """Return whether no position in one row is greater than that in another one."""
    return all([one <= last for one, last in zip(row, other)])


def _minimal(rows):
    """Return the different ones of some rows of positions that no other one is below, ascending."""
    different = sorted(set(rows))
    return [row for row in different if not any([other != row and _is_below(other, row) for other in different])]


def _least_rows(patterns, kinds):
    """Return the positions of the words that the least markings for patterns give some kinds, ascending."""
    rows = [tuple([0 for _ in kinds])]
    seen = {}
    orders = [order for pattern in patterns for order in own_orders(pattern)]
    for order in orders:
        demands = tuple(_minimal([_levels_of(demand(order, way), kinds) for way in ways(order)]))
        if demands not in seen:
            seen[demands] = True
            pairs = [(row, least) for row in rows for least in demands]
            rows = _minimal([tuple([max(one, last) for one, last in zip(row, least)]) for row, least in pairs])
    return rows


def _marking_with(kinds, row):
    """Return the marking that gives some kinds the words with these positions."""
    return Marking.of({kind: WORDS[level] for kind, level in zip(kinds, row)})


def least_for(patterns):
    """Return all least markings that keep each of some patterns from being placed."""
    named = sorted({kind for pattern in patterns for kind in pattern.kinds})
    _check_named(named)
    kinds = ("other", *named)
    return tuple([_marking_with(kinds, row) for row in _least_rows(patterns, kinds)])


def least_markings(rule):
    """Return all least markings that keep a rule."""
    check_rule(rule)
    return least_for(rule.patterns)


def _is_price(value):
    """Return whether a value is a pair of prices, the second one not less than the first one."""
    if not isinstance(value, tuple) or len(value) != 2 or not all([is_integer(part) for part in value]):
        return False
    return 0 <= value[0] <= value[1]


def _are_prices(kinds, value):
    """Return whether a value is a dict from exactly some kinds to prices."""
    if not isinstance(value, dict) or len(value) != len(kinds) or not all([kind in value for kind in kinds]):
        return False
    return all([_is_price(price) for price in value.values()])


def cheapest(rule, prices):
    """Return the least price of a marking that keeps a rule, with the least markings that have it; or None."""
    check_rule(rule)
    kinds = ("other", *rule.kinds)
    if not _are_prices(kinds, prices):
        raise InvalidOperation("these are not prices for other and the kinds of the rule")
    _check_named(rule.kinds)
    rows = _least_rows(rule.patterns, kinds)
    sums = [sum([(0, *prices[kind])[level] for kind, level in zip(kinds, row)]) for row in rows]
    if not rows:
        return None
    found = [_marking_with(kinds, row) for row, price in zip(rows, sums) if price == min(sums)]
    return (min(sums), tuple(found))
