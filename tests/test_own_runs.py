"""[0.11], [7.1], [7.2]: own runs, and the own orders that runs hold."""

import random
import unittest

from letterrules.base.letters import new_names
from letterrules.errors import InvalidName, InvalidOperation, InvalidOrder, InvalidPattern, InvalidRule, InvalidRun
from letterrules.own.orders import OwnOrder, own_orders
from letterrules.own.ownruns import held_order, is_held, is_own_run, own_run, own_runs
from letterrules.rules.breaks import arrangement_of, is_placing, placings
from letterrules.rules.patterns import Pattern, Rule
from letterrules.runs.runs import Run
from letterrules.runs.sets import SETS, is_in, set_of
from support import (
    CROSS, HUGE, LAST, OVERTAKE, STALE, VALUES, Case, closed_steps, many_patterns, naive_ahead, others, run_of, some_run,
)

EXAMPLES = """
>>> run, placing = own_run(stale)
>>> [len(run), placing, run.letters["y"][0], set_of(run), is_own_run(stale, (run, placing)), is_own_run(stale, (LAST, {"x": "a", "y": "c"}))]
[4, {'x': 'x', 'y': 'y'}, 'report', 'pairs', True, True]
>>> [held_order(LAST, STALE, {"x": "a", "y": "c"}) == stale, len(list(own_runs(Rule(CROSS, OVERTAKE), "causal")))]
[True, 1]
"""

SX, SY, RX, RY = ("send", "x"), ("send", "y"), ("read", "x"), ("read", "y")
KINDS = (None, None, ("k",), ("l", "m"))
FREE = OwnOrder(Pattern(x=None, y=("b", "c")), ())


def next_order(pattern):
    return next(own_orders(pattern))


def some_orders(seed, many, most=5):
    """Own orders of many patterns, at most three of each."""
    for pattern in many_patterns(seed, many, KINDS, most):
        for _, order in zip(range(3), own_orders(pattern)):
            yield order


def put(event, placing):
    return (event[0], placing[event[1]])


def is_naive_own_run(order, run, placing):
    """The words of [0.11]; whether a run is in a set is told by the tests of the sets."""
    if run.unread or not is_placing(run, order.pattern, placing) or not is_in(run, order.run_set):
        return False
    ahead = naive_ahead(run)
    pairs = [(e, f) for e in order.events for f in order.events]
    return all(((put(e, placing), put(f, placing)) in ahead) == ((e, f) in tuple(order)) for e, f in pairs)


class ExampleTests(Case):
    def test_examples(self):
        self.examples(EXAMPLES, {**globals(), "stale": next_order(STALE)})


class MadeRunTests(Case):
    def test_it_is_made_as_told(self):
        seen = set()
        for order in some_orders(71, 90):
            run, placing = own_run(order)
            self.same(placing, {name: name for name in order.pattern})
            self.assertIs(type(run), Run)
            self.assertTrue(is_naive_own_run(order, run, placing))
            self.assertIs(is_own_run(order, (run, placing)), True)
            self.look_at_processes(order, run)
            seen.add((order.run_set, set_of(run)))
        self.assertEqual({word for word, _ in seen}, set(SETS))
        self.assertEqual({one for one, other in seen if one != other}, set())

    def look_at_processes(self, order, run):
        groups = order.arrangement
        grouped = {event for group in groups for event in group}
        rows = [*groups, *[(event,) for event in order.events if event not in grouped]]
        where = {event: at for at, row in enumerate(rows) for event in row}
        helped = {(e, f) for e, f in order.next_pairs if e[1] != f[1] and where[e] != where[f]}
        self.assertEqual(len(run.processes), len(rows) + len(helped))
        self.assertEqual(len(run), len(order.pattern) + 2 * len(helped))
        homes = {run.place(event)[0] for event in order.events}
        self.assertEqual(len(homes), len(rows))
        for row in rows:
            self.assertEqual(len({run.place(event)[0] for event in row}), 1)
            whole = run.rows[run.place(row[0])[0]]
            self.assertEqual(tuple(event for event in whole if event[1] in order.pattern.letters), tuple(row))
        found = set()
        for process in set(run.processes) - homes:
            (read, coming), (send, going) = run.rows[process]
            self.assertEqual((read, send), ("read", "send"))
            found.add((self.neighbour(run, order, ("send", coming), -1), self.neighbour(run, order, ("read", going), 1)))
        self.assertEqual(found, helped)
        self.look_at_the_row(order, run)

    def neighbour(self, run, order, event, step):
        """The event of the pattern behind which, or in front of which, an event of a helper's letter stands."""
        process, at = run.place(event)
        row = run.rows[process]
        while row[at][1] not in order.pattern.letters:
            self.assertEqual(row[at][0], event[0])
            at += step
            self.assertGreaterEqual(at, 0)
        return row[at]

    def look_at_the_row(self, order, run):
        """There is a row of all events in which the helpers' letters are read directly behind their sendings."""
        def one_event(event):
            return event if event[1] in order.pattern.letters else event[1]

        steps = {(row[at], row[at + 1]) for row in run.rows.values() for at in range(len(row) - 1)}
        steps |= {(("send", name), ("read", name)) for name in run.letters}
        joined = {(one_event(e), one_event(f)) for e, f in steps if one_event(e) != one_event(f)}
        self.assertFalse([e for e, f in closed_steps(joined) if e == f])

    def test_kinds(self):
        pattern = Pattern(conditions=((RX, SY),), x=None, y=("b", "c"), z=("d", "e", "f"))
        order = next_order(pattern)

        def kinds_of(**more):
            run, _ = own_run(order, **more)
            helped = {run.letters[name][0] for name in run.letters if name not in "xyz"}
            self.assertEqual(len(helped), 1)
            return [*[run.letters[name][0] for name in "xyz"], *helped]

        self.same(kinds_of(), ["plain", "b", "d", "other"])
        self.same(kinds_of(kinds={}, helper="k"), ["plain", "b", "d", "k"])
        self.same(kinds_of(kinds={"y": "c"}), ["plain", "c", "d", "other"])
        self.same(kinds_of(kinds={"z": "f", "x": "d"}, helper="d"), ["d", "b", "f", "d"])
        self.same(kinds_of(kinds={"x": "plain", "y": "b", "z": "e"}, helper="other"), ["plain", "b", "e", "other"])
        self.same(own_run(order, kinds={"x": "a"}), own_run(order, helper="other", kinds={"x": "a"}))
        kinds = {"x": "a"}
        own_run(order, kinds=kinds)[1]["x"] = "y"
        self.same(kinds, {"x": "a"})

    def test_wrong_kinds(self):
        for value in others(dict):
            if value is not None:
                self.fails(InvalidOperation, own_run, FREE, kinds=value)
        for value in ({"y": "a"}, {"y": "other"}, {"x": "other"}, {"z": "a"}, {"x": "A"}, {"x": 5}, {"x": None}, {"x": ("a",)},
                      {1: "a"}, {("x",): "a"}, {"x": ["a"]}, {"y": ["b"]}, {"y": ("b",)}, {"x": "a", "y": "d"}, {None: None},
                      {"y": None}, {"x": "a", "w": "a"}, {"x": CROSS}):
            self.fails(InvalidOperation, own_run, FREE, kinds=value)
            self.fails(InvalidOperation, own_run, FREE, kinds=value, helper=5)

    def test_wrong_helpers_and_orders(self):
        for value in VALUES:
            if value not in ("a", "abcdefgh", "send", "all"):
                self.fails(InvalidName, own_run, FREE, helper=value)
                self.fails(InvalidName, own_run, FREE, helper=value, kinds={"x": "a"})
        for value in others(OwnOrder):
            self.fails(InvalidOrder, own_run, value, kinds=5, helper=5)
            self.fails(InvalidOrder, own_run, value)

    def test_the_largest_one(self):
        sends, reads = [[(word, name) for name in "vwxyz"] for word in ("send", "read")]
        pattern = Pattern.of(dict.fromkeys("vwxyz"), tuple((r, s) for r in reads for s in sends if r[1] < s[1]), ())
        order = next_order(pattern)
        run, placing = own_run(order)
        self.assertTrue(is_naive_own_run(order, run, placing))
        crossed = Pattern.of(dict.fromkeys("vwxyz"), tuple((s, r) for s in sends for r in reads), ())
        order = next_order(crossed)
        run, placing = own_run(order)
        self.same((len(run), len(run.processes)), (45, 30))
        self.assertTrue(is_naive_own_run(order, run, placing))


class JudgeTests(Case):
    def test_runs_that_look_otherwise(self):
        accepted = 0
        for order in some_orders(72, 40):
            run, placing = own_run(order)
            names = dict(zip(run.processes, reversed(new_names(len(run.processes) + 7))))
            self.assertTrue(is_own_run(order, (run.with_processes_by(names), placing)))
            letters = dict(zip(run.letters, reversed(new_names(len(run) + 7))))
            moved = run.with_letters_by(letters)
            self.assertTrue(is_own_run(order, (moved, {name: letters[name] for name in reversed(list(placing))})))
            self.assertIs(is_own_run(order, (moved, placing)), is_naive_own_run(order, moved, placing))
            further = Run({"far": ("k", "here", "there")}, {"here": (("send", "far"),), "there": (("read", "far"),)})
            self.assertTrue(is_own_run(order, (run + further, placing)))
            self.assertTrue(is_own_run(order, (further + run, placing)))
            accepted += self.add_letters(order, run, placing)
        self.assertGreater(accepted, 50)

    def add_letters(self, order, run, placing):
        """One letter more, between any places of two processes: whether this is an own run is told by the words."""
        chance, accepted = random.Random(len(run)), 0
        for _ in range(12):
            sender, reader = chance.sample(run.processes, 2)
            rows = {process: list(row) for process, row in run.rows.items()}
            rows[sender].insert(chance.randint(0, len(rows[sender])), ("send", "far"))
            rows[reader].insert(chance.randint(0, len(rows[reader])), ("read", "far"))
            try:
                more = Run({**run.letters, "far": ("k", sender, reader)}, {one: tuple(row) for one, row in rows.items()})
            except InvalidRun:
                continue
            wanted = is_naive_own_run(order, more, placing)
            self.assertIs(is_own_run(order, (more, placing)), wanted)
            accepted += wanted
        return accepted

    def test_runs_that_are_none(self):
        stale = next_order(STALE)
        placing = {"x": "a", "y": "c"}
        self.assertTrue(is_own_run(stale, (LAST, placing)))
        for value in (
                (LAST, {"x": "c", "y": "a"}), (LAST, {"x": "a"}), (LAST, {**placing, "z": "b"}), (LAST, None), (LAST, ()),
                (LAST,), (LAST, placing, placing), [LAST, placing], (placing, LAST), ({}, placing), LAST,
                (LAST, {"x": "a", "y": "a"}), (LAST, {"x": "a", "y": ["c"]}), (LAST, {"x": "a", 1: "c"}), (LAST, "ac"),
                (LAST.with_kinds(order="k"), placing), (LAST.until(("read", "a")).until(("read", "c")), placing),
                *VALUES):
            self.assertIs(is_own_run(stale, value), False)
        overtaken = run_of("p +a +c, q -c -a", a="order", c="report")
        self.assertIs(is_own_run(stale, (overtaken, placing)), False)
        self.assertTrue(is_held(overtaken, stale, placing))
        for value in others(OwnOrder):
            self.fails(InvalidOrder, is_own_run, value, (LAST, placing))

    def test_a_run_that_is_not_whole(self):
        order = next_order(Pattern(x=None))
        unread = run_of("p +a +b, q -a")
        self.assertIs(is_own_run(order, (unread, {"x": "a"})), False)
        self.assertIs(is_own_run(order, (unread.without("b"), {"x": "a"})), True)

    def test_more_is_ahead_in_the_run(self):
        order = next_order(Pattern(x=None, y=None))
        far, near = run_of("p +a, q -a, r +b, s -b"), run_of("p +a, q -a +b, s -b")
        self.assertIs(is_own_run(order, (far, {"x": "a", "y": "b"})), True)
        self.assertIs(is_own_run(order, (far, {"x": "b", "y": "a"})), True)
        self.assertIs(is_own_run(order, (near, {"x": "a", "y": "b"})), False)
        self.assertIs(is_held(near, order, {"x": "a", "y": "b"}), True)


class RunsOfRulesTests(Case):
    def test_the_order_of_own_runs(self):
        rules = [Rule(CROSS, OVERTAKE), Rule(STALE), Rule(Pattern(x=None), STALE, CROSS, OVERTAKE.without_group(RX))]
        rules += [Rule(one, other) for one, other in zip(many_patterns(73, 12, KINDS), many_patterns(74, 12, KINDS))]
        for rule in rules:
            for word in SETS:
                wanted = [(index, order.arrangement) for index, pattern in enumerate(rule.patterns)
                          for order in own_orders(pattern) if SETS.index(order.run_set) >= SETS.index(word)]
                found = list(own_runs(rule, word))
                self.same([row[:2] for row in found], wanted)
                for index, arrangement, run, placing in found[:4]:
                    self.assertTrue(is_own_run(OwnOrder(rule[index], arrangement), (run, placing)))
                    self.assertTrue(is_in(run, word))

    def test_in_part_and_twice(self):
        rule = Rule(CROSS, STALE, Pattern(x=None))
        one, other = own_runs(rule, "all"), own_runs(rule, "all")
        self.assertEqual(next(one), next(other))
        self.assertEqual(next(one), next(other))
        self.assertEqual(list(other), list(one))

    def test_errors_come_with_the_first_value(self):
        for value in others(Rule):
            steps = own_runs(value, 5)
            self.fails(InvalidRule, next, steps)
        for value in VALUES:
            if value != "all":
                steps = own_runs(Rule(CROSS), value)
                self.fails(InvalidOperation, next, steps)


class HeldTests(Case):
    def test_orders_that_runs_hold(self):
        chance, looked = random.Random(75), 0
        for at in range(60):
            run = some_run(chance, 5, "pqr", (0.9, 0.4)[at % 2], ("k", "l", "m"))
            ahead = naive_ahead(run)
            for pattern in (CROSS, OVERTAKE, Pattern(groups=((SX, SY),), x=None, y=None), Pattern(x=("k", "l"), y=None)):
                for placing in list(placings(run, pattern))[:5]:
                    order = held_order(run, pattern, placing)
                    self.assertEqual(order, OwnOrder(pattern, arrangement_of(run, pattern, placing)))
                    self.assertTrue(all((put(e, placing), put(f, placing)) in ahead for e, f in order
                                        if put(f, placing) in run))
                    is_read = not any(letter in run.unread for letter in placing.values())
                    self.assertIs(is_held(run, order, placing), is_read)
                    looked += 1
        self.assertGreater(looked, 300)

    def test_is_held_by_its_words(self):
        chance, wanted_ones = random.Random(76), 0
        orders = [order for pattern in (CROSS, STALE, OVERTAKE, Pattern(groups=((RX, RY),), x=None, y=None))
                  for order in own_orders(pattern)]
        for at in range(40):
            run = some_run(chance, 5, "pqr", 0.8, ("order", "report"))
            ahead = naive_ahead(run)
            for order in orders:
                for x in run.letters:
                    for y in run.letters:
                        placing = {"y": y, "x": x}
                        wanted = is_placing(run, order.pattern, placing) and not {x, y} & set(run.unread) and all(
                            (put(e, placing), put(f, placing)) in ahead for e, f in order)
                        wanted_ones += wanted
                        self.assertIs(is_held(run, order, placing), wanted)
        self.assertGreater(wanted_ones, 60)

    def test_the_arrangement_must_be_that_of_the_order(self):
        one, other = own_orders(Pattern(groups=((SX, SY),), x=None, y=None))
        run = run_of("p +b +a, q -a -b")
        self.assertIs(is_held(run, one, {"x": "b", "y": "a"}), True)
        self.assertIs(is_held(run, other, {"x": "b", "y": "a"}), False)
        self.assertEqual(held_order(run, one.pattern, {"x": "a", "y": "b"}), other)

    def test_errors(self):
        placing = {"x": "a", "y": "c"}
        stale = next_order(STALE)
        for value in others(Run):
            self.fails(InvalidRun, held_order, value, 5, 5)
            self.fails(InvalidRun, is_held, value, 5, 5)
        for value in others(Pattern):
            self.fails(InvalidPattern, held_order, LAST, value, 5)
        for value in others(OwnOrder):
            self.fails(InvalidOrder, is_held, LAST, value, placing)
        for value in (*VALUES, {"x": "a"}, {"x": "c", "y": "a"}, {**placing, "z": "b"}, {"x": "a", "y": "a"}, {"x": ["a"], "y": "c"},
                      {"x": "a", "y": HUGE}, [("x", "a"), ("y", "c")]):
            self.fails(InvalidOperation, held_order, LAST, STALE, value)
            self.assertIs(is_held(LAST, stale, value), False)


if __name__ == "__main__":
    unittest.main()
