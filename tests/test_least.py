"""[0.15], [11.1] to [11.3]: ways, markings that keep a rule, and the least of them."""

import itertools
import random
import unittest

from letterrules.answers.answers import answer
from letterrules.errors import InvalidMarking, InvalidOperation, InvalidOrder, InvalidRule, TooMany
from letterrules.marks.known import WORDS, Marking, is_calm
from letterrules.marks.least import (
    breaking_run, cheapest, demand, is_breaking_run, is_keeping_paper, is_way, keeping_paper, keeps, least_markings, ways,
)
from letterrules.own.orders import OwnOrder, is_late_in, own_orders
from letterrules.rules.breaks import breaks, is_placing
from letterrules.rules.patterns import Pattern, Rule
from letterrules.runs.runs import Run
from support import CROSS, HUGE, LAST, OVERTAKE, STALE, VALUES, Case, many_patterns, others, run_of, some_pattern, some_run

EXAMPLES = """
>>> FLUSH = Pattern(conditions=OVERTAKE.conditions, groups=OVERTAKE.groups, x=("order",), y=("report",))
>>> [[list(ways(order)) for order in own_orders(FLUSH)], least_markings(Rule(FLUSH)) == (Marking(report="numbers"),)]
[[[('late', 'x'), ('row', 'x', ('y',))]], True]
>>> [least_markings(Rule(STALE)) == (Marking.even("notes"),), least_markings(Rule(CROSS)), cheapest(Rule(FLUSH), {"other": (1, 2), "order": (1, 4), "report": (3, 5)})[0]]
[True, (), 3]
"""

SX, SY, SZ, RX, RY, RZ = [(word, name) for word in ("send", "read") for name in "xyz"]
FLUSH = Pattern(conditions=OVERTAKE.conditions, groups=OVERTAKE.groups, x=("order",), y=("report",))
# z is sent behind x, y is sent behind the reading of z, and read in front of x.
RELAY = Pattern(conditions=((SX, SZ), (RZ, SY), (RY, RX)), groups=((SX, SZ), (RZ, SY), (RX, RY)), x=None, y=("k",), z=("l", "m"))
# This one has two least markings: y and z are each sent behind x, and read in front of it.
EITHER = Pattern(conditions=((SX, SY), (SX, SZ), (RY, RX), (RZ, RX)), groups=((SX, SY, SZ), (RX, RY, RZ)), x=None, y=("k",), z=("l",))
NEVER = Pattern(x=None)
RINGS = Pattern(conditions=((SX, SX),), x=("k",))
KINDS = (None, ("k",), ("l",), ("k", "l"), ("m",))


def some_patterns(seed, many):
    """Patterns of which many have ways with rows: letters that go from group to group."""
    chance = random.Random(seed)
    yield from (CROSS, OVERTAKE, STALE, FLUSH, RELAY, EITHER, NEVER, RINGS)
    yield from many_patterns(seed, many // 2, KINDS, most=4)
    for at in range(many // 2):
        pattern = RELAY if at % 2 else OVERTAKE
        for name in pattern:
            kinds = chance.choice(KINDS)
            pattern = pattern.with_letter(name, *(() if kinds is None else kinds))
        if at % 3 == 0:
            pattern = pattern.without_condition(*chance.choice(pattern.conditions))
        if at % 5 == 0:
            pattern = pattern & Pattern(w=chance.choice(KINDS))
        yield pattern


def some_rules(seed):
    chance = random.Random(seed)
    patterns = list(some_patterns(seed, 40))
    yield from (Rule(pattern) for pattern in patterns)
    for many in (2, 2, 2, 3, 3):
        picked = chance.sample(patterns, many)
        yield Rule.of(tuple(pattern for at, pattern in enumerate(picked) if pattern not in picked[:at]))


def some_markings(seed, many):
    chance = random.Random(seed)
    yield from map(Marking.even, WORDS)
    for _ in range(many):
        yield Marking.of({kind: chance.choice(WORDS) for kind in ("k", "l", "m", "order", "report", "other", "far")
                          if chance.random() < 0.6})


def stands_in_front(order, one, other):
    return any(one in row and other in row and row.index(one) < row.index(other) for row in order.arrangement)


def naive_ways(order):
    """The words of [11.1]."""
    names = tuple(order.pattern)
    lates = [("late", y) for y in names if any(is_late_in(order, (y, event)) for event in order.events)]
    rows = []
    for y in names:
        left = [name for name in names if name != y]
        for many in range(1, len(names)):
            for letters in itertools.permutations(left, many):
                steps = [(("send", y), ("send", letters[0])), (("read", letters[-1]), ("read", y))]
                steps += [(("read", one), ("send", other)) for one, other in zip(letters, letters[1:])]
                if all(stands_in_front(order, *step) for step in steps):
                    rows.append(("row", y, letters))
    return lates + sorted(rows)


def naive_demand(order, way, kinds):
    """The least levels of some kinds by which the demand holds."""
    if way[0] == "late":
        return {kind: 2 for kind in kinds}
    levels = {kind: 0 for kind in kinds}
    for at, letter in enumerate(way[2]):
        told = order.pattern.letters[letter]
        for kind in kinds if told is None else told:
            levels[kind] = max(levels[kind], 1 if at == 0 else 2)
    return levels


def level(marking, kind):
    return WORDS.index(marking[kind])


def naive_keeps(rule, marking):
    kinds = ("other", "far", *rule.kinds, *marking.kinds)
    return all(any(all(naive_demand(order, way, kinds)[kind] <= level(marking, kind) for kind in kinds)
                   for way in naive_ways(order))
               for pattern in rule.patterns for order in own_orders(pattern))


def naive_least(rule):
    """All markings of the kinds of the rule, in the order that is told; of those that keep it the least ones."""
    kinds = ("other", *rule.kinds)
    rows = [row for row in itertools.product(range(3), repeat=len(kinds))
            if naive_keeps(rule, Marking.of({kind: WORDS[at] for kind, at in zip(kinds, row)}))]
    least = [row for row in rows if not any(one != row and all(a <= b for a, b in zip(one, row)) for one in rows)]
    return tuple(Marking.of({kind: WORDS[at] for kind, at in zip(kinds, row)}) for row in least)


class ExampleTests(Case):
    def test_examples(self):
        self.examples(EXAMPLES, dict(globals()))


class WayTests(Case):
    def test_ways_and_demands(self):
        lengths = set()
        for pattern in some_patterns(111, 60):
            for order in list(own_orders(pattern))[:6]:
                wanted = naive_ways(order)
                self.same(list(ways(order)), wanted)
                kinds = ("other", "far", *pattern.kinds)
                for way in wanted:
                    lengths.add(len(way[2]) if way[0] == "row" else 0)
                    self.assertIs(is_way(order, way), True)
                    found = demand(order, way)
                    self.assertIs(type(found), Marking)
                    self.same({kind: level(found, kind) for kind in kinds}, naive_demand(order, way, kinds))
        self.assertEqual(lengths, {0, 1, 2})

    def test_the_judge(self):
        for pattern in some_patterns(112, 40):
            for order in list(own_orders(pattern))[:3]:
                right = naive_ways(order)
                for y in pattern:
                    self.assertIs(is_way(order, ("late", y)), ("late", y) in right)
                    for many in range(4):
                        for row in itertools.product(pattern, repeat=many):
                            self.assertIs(is_way(order, ("row", y, row)), ("row", y, row) in right)

    def test_rows_of_three_letters(self):
        events = [SX, SY, ("read", "y"), SZ, RZ, ("send", "w"), ("read", "w"), RX]
        pairs = ((SX, SY), (RY, SZ), (RZ, ("send", "w")), (("read", "w"), RX))
        pattern = Pattern(conditions=pairs, groups=pairs, w=("k",), x=None, y=("l",), z=("l", "m"))
        (order,) = own_orders(pattern)
        self.same(tuple(event for pair in pairs for event in pair), tuple(events))
        self.same(list(ways(order)), [("late", "x"), ("row", "x", ("y", "z", "w"))])
        self.same(str(demand(order, ("row", "x", ("y", "z", "w")))), "k notes, l notes, m notes, other nothing")
        other = pattern.with_letter("y").with_letter("z")
        (order,) = own_orders(other)
        self.same(str(demand(order, ("row", "x", ("y", "z", "w")))), "other notes")

    def test_rows_of_one_and_two_letters(self):
        groups = ((SX, SY, SZ), (RY, ("send", "w")), (RX, RZ, ("read", "w")))
        pairs = ((SX, SY), (SX, SZ), (RY, ("send", "w")), (RZ, RX), (("read", "w"), RX))
        pattern = Pattern(conditions=pairs, groups=groups, w=None, x=None, y=None, z=None)
        found = [[way[2] for way in ways(order) if way[0] == "row" and way[1] == "x"] for order in own_orders(pattern)]
        self.same(found, [[("y", "w"), ("z",)]] * 4)

    def test_a_letter_of_any_kind_has_all_kinds(self):
        (order,) = own_orders(OVERTAKE)
        self.assertEqual(demand(order, ("row", "x", ("y",))), Marking.even("numbers"))
        (order,) = own_orders(RELAY.with_letter("z"))
        self.same(str(demand(order, ("row", "x", ("z", "y")))), "k notes, other numbers")
        self.assertFalse(is_way(order, ("row", "x", ("y", "z"))))

    def test_the_order_of_the_arrangement(self):
        found = []
        for order in own_orders(OVERTAKE.without_condition(SX, SY).without_condition(RY, RX)):
            self.same(list(ways(order)), naive_ways(order))
            found.append([way[1:] for way in ways(order) if way[0] == "row"])
        self.same(sorted(found), [[], [], [("x", ("y",))], [("y", ("x",))]])

    def test_in_part_and_twice(self):
        (order,) = own_orders(RELAY)
        one, other = ways(order), ways(order)
        self.same([next(one), next(other), next(one), next(other)],
                  [("late", "x"), ("late", "x"), ("row", "x", ("z", "y")), ("row", "x", ("z", "y"))])
        self.same(list(one), [])

    def test_errors(self):
        for value in others(OwnOrder):
            steps = ways(value)
            self.fails(InvalidOrder, next, steps)
            self.fails(InvalidOrder, is_way, value, 5)
            self.fails(InvalidOrder, demand, value, 5)
        (order,) = own_orders(RELAY)
        for value in (*VALUES, ("late", "y"), ("late", "x", ()), ("row", "x", ()), ("row", "x", ("z",)), ["late", "x"],
                      ("row", "x", ["z", "y"]), ("row", ("z", "y")), ("late", "q"), ("late", ["x"]), ("row", ["x"], ("z", "y")),
                      ("row", "x", (["z"], "y")), ("row", "x", ("z", "y"), ()), ("row", "x", ("z", "z", "y")), ("late",),
                      ("row", "x"), ("junk", "x"), ("row", "x", "zy"), ("rows", "x", ("z", "y")), ("row", "x", ("z", "y", "q")), ("late", True)):
            self.assertIs(is_way(order, value), False)
            self.fails(InvalidOperation, demand, order, value)


class KeepingTests(Case):
    def test_keeping_by_its_words(self):
        seen = set()
        for at, rule in enumerate(some_rules(113)):
            keys = [(index, order.arrangement) for index, pattern in enumerate(rule.patterns) for order in own_orders(pattern)]
            for marking in some_markings(at, 5):
                wanted = naive_keeps(rule, marking)
                seen.add(wanted)
                self.assertIs(keeps(rule, marking), wanted)
                paper, breaking = keeping_paper(rule, marking), breaking_run(rule, marking)
                self.assertEqual((paper is None, breaking is None), (not wanted, wanted))
                if wanted:
                    self.same(list(paper), keys)
                    self.assertIs(is_keeping_paper(rule, marking, paper), True)
                else:
                    index, run, placing = breaking
                    self.assertTrue(run.is_whole and is_calm(run, marking) and is_placing(run, rule[index], placing))
                    self.assertIs(is_breaking_run(rule, marking, breaking), True)
        self.assertEqual(seen, {True, False})

    def test_calm_runs_keep_the_rule(self):
        chance = random.Random(114)
        rules = [(rule, marking) for at, rule in enumerate(some_rules(115)) for marking in some_markings(at, 3)
                 if answer(rule) not in ("nothing", "never") and keeps(rule, marking)]
        self.assertGreater(len(rules), 20)
        for _ in range(40):
            run = some_run(chance, 5, "pqr", 1, ("k", "l", "order", "report"))
            run = run.without(*run.unread)
            for rule, marking in rules:
                if is_calm(run, marking):
                    self.assertFalse(breaks(run, rule))

    def test_ways_of_others_in_papers(self):
        changed = 0
        for rule in some_rules(116):
            for marking in some_markings(7, 3):
                paper = keeping_paper(rule, marking)
                for key in list(paper or {})[:3]:
                    order = OwnOrder(rule[key[0]], key[1])
                    for way in ways(order):
                        other = dict(reversed({**paper, key: way}.items()))
                        wanted = demand(order, way).is_at_most(marking)
                        changed += wanted and other != paper
                        self.assertIs(is_keeping_paper(rule, marking, other), wanted)
        self.assertGreater(changed, 10)

    def test_wrong_papers(self):
        rule, notes = Rule(FLUSH, RELAY), Marking.even("notes")
        paper = keeping_paper(rule, notes)
        for key in paper:
            less = {one: way for one, way in paper.items() if one != key}
            self.assertIs(is_keeping_paper(rule, notes, less), False)
            index, row = key
            for wrong in ((bool(index), row), (index + 2, row), (index,), (row, index), None, "key", (index, row, ()), (index, ())):
                self.assertIs(is_keeping_paper(rule, notes, {**less, wrong: paper[key]}), False)
                if wrong not in paper:
                    self.assertIs(is_keeping_paper(rule, notes, {**paper, wrong: paper[key]}), False)
            for way in (*VALUES, ("late", "y"), ("late",), ["late", "x"], ("row", "x", ())):
                self.assertIs(is_keeping_paper(rule, notes, {**paper, key: way}), False)
        for value in (*VALUES, tuple(paper.items()), list(paper)):
            self.assertIs(is_keeping_paper(rule, notes, value), False)
        self.same((keeping_paper(Rule(RINGS), Marking()), keeps(Rule(RINGS), Marking())), ({}, True))
        self.assertIs(is_keeping_paper(Rule(RINGS), Marking(), {}), True)
        self.assertIs(is_keeping_paper(Rule(RINGS), Marking(), []), False)

    def test_breaking_runs_of_others(self):
        rule, placing = Rule(OVERTAKE, STALE), {"x": "a", "y": "c"}
        self.assertIs(is_breaking_run(rule, Marking(), (1, LAST, placing)), True)
        self.assertIs(is_breaking_run(rule, Marking.even("numbers"), (1, LAST, placing)), True)
        self.assertIs(is_breaking_run(rule, Marking(other="nothing", report="notes"), (1, LAST, placing)), True)
        self.assertIs(is_breaking_run(rule, Marking.even("notes"), (1, LAST, placing)), False)
        unread = Run({**LAST.letters, "d": ("k", "p", "r")}, {**LAST.rows, "p": (*LAST.rows["p"], ("send", "d"))})
        for value in (*VALUES, (0, LAST, placing), (True, LAST, placing), (2, LAST, placing), (-1, LAST, placing), (1, LAST),
                      [1, LAST, placing], (1, LAST, {"x": "c", "y": "a"}), (1, unread, placing), (1, None, placing), (1, LAST, None),
                      (1, LAST, placing, None), (1, STALE, placing)):
            self.assertIs(is_breaking_run(rule, Marking(), value), False)

    def test_kinds_that_carry_least(self):
        # Each letter carries as little as it can, which may be a kind that the marking names, or one that nobody names.
        for words, kinds in (({"other": "notes", "far": "nothing"}, {"far"}), ({"far": "notes"}, None),
                             ({"other": "numbers", "far": "numbers", "near": "nothing"}, {"near"})):
            index, run, placing = breaking_run(Rule(NEVER), Marking.of(words))
            found = {letter[0] for letter in run.letters.values()}
            self.assertTrue(found == kinds if kinds else not found & {"far", "other"})
        marking = Marking(k="notes", l="nothing", other="numbers")
        _, run, placing = breaking_run(Rule(Pattern(x=("k", "l"), y=("k",))), marking)
        self.same((run.letters[placing["x"]][0], run.letters[placing["y"]][0]), ("l", "k"))

    def test_errors(self):
        for value in others(Rule):
            for function in (keeps, keeping_paper, breaking_run):
                self.fails(InvalidRule, function, value, 5)
            for function in (is_keeping_paper, is_breaking_run):
                self.fails(InvalidRule, function, value, 5, 5)
            self.fails(InvalidRule, least_markings, value)
            self.fails(InvalidRule, cheapest, value, 5)
        for value in others(Marking):
            for function in (keeps, keeping_paper, breaking_run):
                self.fails(InvalidMarking, function, Rule(CROSS), value)
            for function in (is_keeping_paper, is_breaking_run):
                self.fails(InvalidMarking, function, Rule(CROSS), value, 5)


class LeastTests(Case):
    def test_least_markings(self):
        numbers = set()
        for rule in some_rules(117):
            found = least_markings(rule)
            self.same(type(found), tuple)
            self.assertEqual(found, naive_least(rule))
            self.assertEqual(found == (), answer(rule) in ("letters", "never"))
            numbers.add(min(len(found), 2))
        self.assertEqual(numbers, {0, 1, 2})

    def test_by_hand(self):
        self.assertEqual(least_markings(Rule(RINGS)), (Marking(),))
        self.assertEqual(least_markings(Rule(OVERTAKE)), (Marking.even("numbers"),))
        self.assertEqual(least_markings(Rule(RELAY)), (Marking(k="notes", l="numbers", m="numbers"),))
        self.same([least_markings(Rule(pattern)) for pattern in (CROSS, NEVER)], [(), ()])

    def test_two_least_markings(self):
        found = least_markings(Rule(EITHER))
        self.assertEqual(found, (Marking(l="numbers"), Marking(k="numbers")))
        joined = least_markings(Rule(EITHER, FLUSH))
        self.assertEqual(joined, (Marking(l="numbers", report="numbers"), Marking(k="numbers", report="numbers")))

    def test_rules_together(self):
        chance, rules = random.Random(118), [rule for rule in some_rules(119) if least_markings(rule)]
        for _ in range(30):
            one, other = chance.sample(rules, 2)
            joins = [first | last for first in least_markings(one) for last in least_markings(other)]
            if len(set(map(str, (*one, *other)))) and len(one) + len(other) <= 6:
                for marking in least_markings(one | other):
                    self.assertIn(marking, joins)

    def test_prices(self):
        rule = Rule(EITHER)
        price = {"other": (1, 2), "k": (3, 3), "l": (2, 9)}
        self.assertEqual(cheapest(rule, price), (2, (Marking(l="numbers"),)))
        self.assertEqual(cheapest(rule, {**price, "l": (3, 9)}), (3, (Marking(l="numbers"), Marking(k="numbers"))))
        self.assertEqual(cheapest(rule, {**price, "l": (4, 9)}), (3, (Marking(k="numbers"),)))
        self.assertEqual(cheapest(rule, {**price, "l": (HUGE, HUGE)}), (3, (Marking(k="numbers"),)))
        self.assertEqual(cheapest(rule, {**price, "l": (0, 0)}), (0, (Marking(l="numbers"),)))
        self.assertEqual(cheapest(Rule(STALE), {"other": (1, 2), "order": (3, 4), "report": (5, 7)}), (13, (Marking.even("notes"),)))
        self.same(cheapest(Rule(CROSS), {"other": (1, 2)}), None)
        self.assertEqual(cheapest(Rule(RINGS), {"other": (1, 2), "k": (1, 2)}), (0, (Marking(),)))
        self.assertEqual(price, {"other": (1, 2), "k": (3, 3), "l": (2, 9)})

    def test_cheapest_by_trying(self):
        chance = random.Random(120)
        for rule in some_rules(121):
            kinds = ("other", *rule.kinds)
            prices = {kind: tuple(sorted((chance.randrange(4), chance.randrange(6)))) for kind in kinds}
            least = naive_least(rule)
            sums = [sum((0, *prices[kind])[level(marking, kind)] for kind in kinds) for marking in least]
            wanted = (min(sums), tuple(marking for marking, price in zip(least, sums) if price == min(sums))) if sums else None
            self.assertEqual(cheapest(rule, dict(reversed(prices.items()))), wanted)

    def test_wrong_prices(self):
        rule = Rule(FLUSH)
        right = {"other": (1, 2), "order": (1, 4), "report": (3, 5)}
        for value in (*VALUES, {"other": (1, 2)}, {**right, "k": (1, 2)}, {"order": (1, 4), "report": (3, 5), "k": (1, 2)},
                      tuple(right.items()), list(right), {"order": (1, 4), "report": (3, 5), 1: (1, 2)}):
            self.fails(InvalidOperation, cheapest, rule, value)
        for value in (*VALUES, (2, 1), (-1, 2), (True, 2), (0, True), (1, 2, 3), [1, 2], (1,), ("1", "2"), (None, 1), (-2, -1)):
            if value != (1, 2):
                self.fails(InvalidOperation, cheapest, rule, {**right, "order": value})

    def test_eight_kinds_and_nine(self):
        eight = Pattern(conditions=STALE.conditions, groups=STALE.groups, x=("a", "b", "c", "d"), y=("e", "f", "g", "h"))
        overtaken = Pattern(conditions=OVERTAKE.conditions, groups=OVERTAKE.groups, x=None, y=("a", "b", "c", "d"))
        wide = Rule(overtaken, Pattern(conditions=OVERTAKE.conditions, groups=OVERTAKE.groups, x=None, y=("e", "f", "g", "h")))
        self.assertEqual(least_markings(Rule(eight)), (Marking.even("notes"),))
        self.assertEqual(least_markings(wide), (Marking.of({kind: "numbers" for kind in "abcdefgh"}),))
        prices = {kind: (1, 2) for kind in ("other", *"abcdefgh")}
        self.same(cheapest(wide, prices)[0], 8)
        nine = wide | Rule(Pattern(x=("i",)))
        self.fails_with(TooMany, 8, least_markings, nine)
        self.fails(InvalidOperation, cheapest, nine, prices)
        self.fails_with(TooMany, 8, cheapest, nine, {**prices, "i": (1, 2)})
        self.assertIs(keeps(nine, Marking.even("notes")), False)

    def test_many_arrangements(self):
        chance = random.Random(122)
        pattern = some_pattern(chance, 5, 0, 0).with_group(*[("send", name) for name in "vwxy"])
        pattern = pattern.with_group(*[("read", name) for name in "vwxy"])
        self.same(least_markings(Rule(pattern)), ())


if __name__ == "__main__":
    unittest.main()
