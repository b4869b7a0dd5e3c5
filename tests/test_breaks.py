"""[0.10], [0.15], [5.1], [5.2]: runs that break patterns and rules."""

import itertools
import random
import unittest

from letterrules.base.letters import new_names
from letterrules.errors import InvalidOperation, InvalidPattern, InvalidRule, InvalidRun, TooMany
from letterrules.rules.breaks import (
    arrangement_of, blamed, breaks, broken_patterns, first_break, is_placing, placings,
)
from letterrules.rules.patterns import Pattern, Rule, is_arrangement
from letterrules.runs.runs import Run
from support import CROSS, LAST, OVERTAKE, STALE, VALUES, Case, naive_ahead, others, run_of, some_run

EXAMPLES = """
>>> [list(placings(LAST, STALE)), first_break(LAST, Rule(OVERTAKE, STALE)), broken_patterns(LAST, Rule(CROSS, STALE)), blamed(LAST, Rule(STALE))]
[[{'x': 'a', 'y': 'c'}], (1, {'x': 'a', 'y': 'c'}), {0: 2, 1: 1}, ('a', 'c')]
>>> [arrangement_of(LAST, STALE, {"x": "a", "y": "c"}), is_placing(LAST, STALE, {"x": "c", "y": "a"}), breaks(LAST, Rule(OVERTAKE))]
[((('read', 'y'), ('read', 'x')),), False, False]
"""

SX, SY, RX, RY = ("send", "x"), ("send", "y"), ("read", "x"), ("read", "y")
PATTERNS = (
    CROSS, OVERTAKE, STALE, Pattern(x=None), Pattern(x=("order",)), Pattern(conditions=((SX, RX),), x=None),
    Pattern(conditions=((RX, SX),), x=None), Pattern(conditions=((SX, SX),), x=None), Pattern(conditions=((RX, RX),), x=None),
    Pattern(x=("order", "report"), y=None), Pattern(conditions=((SX, RY),), x=None, y=None, z=("report",)),
    Pattern(groups=((SX, SY),), x=None, y=None), Pattern(groups=((SX, RY),), x=None, y=("order",)),
    Pattern(groups=((RX, SY, ("send", "z")),), conditions=((SX, SY),), x=None, y=None, z=None),
    Pattern(groups=((SX, ("send", "z")), (RX, RY)), conditions=((RY, RX),), x=None, y=None, z=None),
    Pattern(conditions=((SX, SY), (SY, ("send", "z"))), x=None, y=None, z=None),
    Pattern(w=None, x=None, y=None, z=None, conditions=((SX, SY),), groups=((("read", "w"), ("read", "z")),)),
)
RULES = (Rule(*PATTERNS[:3]), Rule(PATTERNS[8], *PATTERNS[3:8]), Rule(*PATTERNS[9:15]), Rule(*PATTERNS[15:]))


def naive_placings(run, pattern):
    """All placings, ascending, by the words of the document."""
    ahead, letters = naive_ahead(run), run.letters
    where = {event: process for process, row in run.rows.items() for event in row}
    found = []
    for chosen in itertools.permutations(letters, len(pattern)):
        placing = dict(zip(pattern.letters, chosen))

        def put(event):
            return (event[0], placing[event[1]])

        kinds_hold = all(letters[placing[name]][0] != "other" if kinds is None else letters[placing[name]][0] in kinds
                         for name, kinds in pattern.letters.items())
        rows = [*pattern.conditions, *pattern.groups]
        if kinds_hold and all(put(event) in where for row in rows for event in row):
            if all((put(one), put(other)) in ahead for one, other in pattern.conditions):
                if all(len({where[put(event)] for event in group}) == 1 for group in pattern.groups):
                    found.append(placing)
    return sorted(found, key=lambda placing: tuple(placing.values()))


def many_run(**numbers):
    """A whole run with so many letters of each kind, all from p to q, and read in the order of sending."""
    names = iter(new_names(60))
    letters = {next(names): (kind, "p", "q") for kind, many in numbers.items() for _ in range(many)}
    return Run(letters, {"p": tuple(("send", name) for name in letters), "q": tuple(("read", name) for name in letters)})


# 50 * 50 * 20 * 20 choices in the first run are exactly a million, and 51 * 50 * 20 * 20 in the second one are more.
MILLION, MORE = many_run(k=20, l=30, other=5), many_run(k=20, l=30, m=1, other=5)
LARGE = Pattern(conditions=((("read", "x"), ("send", "w")),), w=("k", "l"), x=None, y=("k",), z=("k",))
SMALL = Pattern(conditions=((SX, SY),), x=("m",), y=("other", "k")[1:])


class ExampleTests(Case):
    def test_examples(self):
        self.examples(EXAMPLES, dict(globals()))


class NaiveTests(Case):
    def runs(self):
        chance = random.Random(55)
        yield Run({}, {})
        yield LAST
        for at in range(60):
            yield some_run(chance, 2 + at % 4, "pqr"[:2 + at % 2], 1 - at % 3 / 3, ("order", "report", "k", "other"))

    def test_placings(self):
        hits = {at: 0 for at in range(len(PATTERNS))}
        for run in self.runs():
            for at, pattern in enumerate(PATTERNS):
                wanted = naive_placings(run, pattern)
                hits[at] += len(wanted)
                self.same(list(placings(run, pattern)), wanted)
                for chosen in itertools.product(run.letters, repeat=len(pattern)) if len(pattern) < 4 else ():
                    value = dict(zip(pattern.letters, chosen))
                    self.assertIs(is_placing(run, pattern, value), value in wanted)
                for placing in wanted:
                    self.look_at_arrangement(run, pattern, placing)
        self.assertEqual([at for at in hits if not hits[at]], [6, 7, 8])

    def look_at_arrangement(self, run, pattern, placing):
        self.assertIs(is_placing(run, pattern, placing), True)
        found = arrangement_of(run, pattern, placing)
        self.assertIs(is_arrangement(pattern, found), True)
        for order in found:
            places = [run.place((word, placing[name])) for word, name in order]
            self.assertEqual(len({process for process, _ in places}), 1)
            self.assertEqual(places, sorted(places))

    def test_rules(self):
        for run in self.runs():
            for rule in RULES:
                wanted = {at: naive_placings(run, pattern) for at, pattern in enumerate(rule)}
                wanted = {at: found for at, found in wanted.items() if found}
                self.assertIs(breaks(run, rule), bool(wanted))
                self.same(broken_patterns(run, rule), {at: len(found) for at, found in wanted.items()})
                used = {letter for found in wanted.values() for placing in found for letter in placing.values()}
                self.same(blamed(run, rule), tuple(sorted(used)))
                self.assertIs(breaks(run.without(*used), rule), False)
                first = next(iter(wanted), None)
                self.same(first_break(run, rule), None if first is None else (first, wanted[first][0]))


class PlacingTests(Case):
    def test_order_of_values_and_keys(self):
        run = run_of("p +c +a +b, q -b -a -c")
        pattern = Pattern(conditions=((("send", "z"), ("send", "b")),), z=None, b=None)
        self.same(list(placings(run, pattern)), [{"b": "a", "z": "c"}, {"b": "b", "z": "a"}, {"b": "b", "z": "c"}])

    def test_in_part_and_side_by_side(self):
        run = run_of("p +a +b +c, q -c -b -a")
        one, other = placings(run, OVERTAKE), placings(run, OVERTAKE)
        first, second = next(one), next(one)
        self.same((first, second), ({"x": "a", "y": "b"}, {"x": "a", "y": "c"}))
        first["x"] = "zz"
        second.clear()
        self.same(next(other), {"x": "a", "y": "b"})
        self.same(next(one), {"x": "b", "y": "c"})
        self.same(list(one), [])
        self.same(next(other), {"x": "a", "y": "c"})

    def test_letters_that_are_not_read(self):
        run = run_of("p +a +b", a="order", b="report")
        self.same(list(placings(run, Pattern(conditions=((SX, SY),), x=None, y=None))), [{"x": "a", "y": "b"}])
        self.same(list(placings(run, STALE)), [])
        self.same(list(placings(run, STALE.without_group(RX).without_condition(RY, RX))), [{"x": "a", "y": "b"}])
        self.same(list(placings(run, Pattern(x=("order",)))), [{"x": "a"}])
        self.same(list(placings(run, Pattern(conditions=((SX, RX),), x=None))), [])
        self.same(list(placings(run, Pattern(groups=((SX, SY),), x=None, y=None))),
                  [{"x": "a", "y": "b"}, {"x": "b", "y": "a"}])
        self.same(list(placings(run, Pattern(groups=((RX, SY),), x=None, y=None))), [])
        self.assertIs(is_placing(run, Pattern(conditions=((SX, RX),), x=None), {"x": "a"}), False)
        self.assertIs(is_placing(run, Pattern(groups=((RX, RY),), x=None, y=None), {"x": "a", "y": "b"}), False)

    def test_kinds(self):
        run = run_of("p +a +b +c, q -c -b -a", a="other", b="order")
        self.same(list(placings(run, Pattern(x=None))), [{"x": "b"}, {"x": "c"}])
        self.same(list(placings(run, Pattern(x=("order", "z")))), [{"x": "b"}])
        self.same(list(placings(run, OVERTAKE)), [{"x": "b", "y": "c"}])

    def test_is_placing(self):
        self.assertIs(is_placing(LAST, STALE, {"y": "c", "x": "a"}), True)
        for value in (*VALUES, {"x": "a"}, {"x": "a", "y": "c", "z": "b"}, {"x": "a", "y": "a"}, {"x": "a", "y": "zz"},
                      {"x": "a", "y": None}, {"x": "a", "y": ["c"]}, {"x": "a", "z": "c"}, {1: "a", 2: "c"},
                      (("x", "a"), ("y", "c")), ("a", "c"), {"x": ("a",), "y": "c"}, {"x": "c", "y": "a"},
                      {"x": "a", "y": "b"}, {"x": {}, "y": LAST}):
            self.assertIs(is_placing(LAST, STALE, value), False, value)
            self.fails(InvalidOperation, arrangement_of, LAST, STALE, value)

    def test_what_is_placed_stays_placed(self):
        chance = random.Random(77)
        told = 0
        for _ in range(40):
            run = some_run(chance, 5, read=0.8, kinds=("order", "report", "k"))
            part = run
            for at in range(len(run.order), 0, -1):
                shorter = run.until(*run.order[:at])
                for pattern in PATTERNS:
                    for placing in placings(shorter, pattern):
                        told += 1
                        self.assertIs(is_placing(part, pattern, placing), True)
                        self.assertEqual(arrangement_of(part, pattern, placing), arrangement_of(shorter, pattern, placing))
                part = shorter
        self.assertGreater(told, 1000)

    def test_blamed_in_part(self):
        run = run_of("p +a +b +c -d, q -b -a -c, r +d")
        self.same(blamed(run, Rule(OVERTAKE)), ("a", "b"))
        self.same(blamed(run.without("a"), Rule(OVERTAKE)), ())
        self.same(blamed(run, Rule(OVERTAKE, Pattern(groups=((SX, RY),), x=None, y=None))), ("a", "b", "c", "d"))


class LimitTests(Case):
    def test_exactly_a_million(self):
        for rule in (Rule(LARGE), Rule(SMALL, LARGE)):
            self.assertIs(breaks(MILLION, rule), False)
            self.assertIsNone(first_break(MILLION, rule))
            self.same(broken_patterns(MILLION, rule), {})
            self.same(blamed(MILLION, rule), ())
        self.same(list(placings(MILLION, LARGE)), [])

    def test_a_million_placings(self):
        free = Pattern.of(LARGE.letters, (), ())
        rule = Rule(free)
        wanted = 20 * 19 * 48 * 47
        self.same(broken_patterns(MILLION, rule), {0: wanted})
        self.assertEqual(sum(1 for _ in placings(MILLION, free)), wanted)
        self.assertEqual(len(blamed(MILLION, rule)), 50)
        self.assertEqual(first_break(MILLION, rule), (0, {"w": "a", "x": "aa", "y": "b", "z": "c"}))

    def test_more_than_a_million(self):
        for pattern in (LARGE, Pattern.of(LARGE.letters, (), ())):
            for rule in (Rule(pattern), Rule(SMALL, pattern), Rule(pattern, SMALL)):
                for function in (breaks, first_break, broken_patterns, blamed):
                    self.fails_with(TooMany, 1000000, function, MORE, rule)
            found = placings(MORE, pattern)
            self.fails_with(TooMany, 1000000, next, found)
        self.same(broken_patterns(MORE, Rule(SMALL)), {})

    def test_others_do_not_look_at_choices(self):
        free = Pattern.of(LARGE.letters, (), ())
        good = {"w": "a", "x": "aa", "y": "b", "z": "c"}
        self.assertIs(is_placing(MORE, free, good), True)
        self.assertIs(is_placing(MORE, LARGE, good), False)
        self.assertEqual(arrangement_of(MORE, free, good), ())

    def test_letters_that_are_not_read_count(self):
        run = run_of("p " + " ".join("+" + name for name in new_names(60)))
        pattern = Pattern(conditions=((RX, RY),), w=None, x=None, y=None, z=None)
        self.fails_with(TooMany, 1000000, breaks, run, Rule(pattern))
        self.assertIs(breaks(run, Rule(pattern.without_letter("w"))), False)


class ErrorTests(Case):
    def test_runs(self):
        for value in others(Run):
            for function in (breaks, first_break, broken_patterns, blamed):
                self.fails(InvalidRun, function, value, None)
            self.fails(InvalidRun, is_placing, value, None, {})
            self.fails(InvalidRun, arrangement_of, value, None, None)
            found = placings(value, None)
            self.fails(InvalidRun, next, found)

    def test_patterns_and_rules(self):
        for value in VALUES:
            if not isinstance(value, Rule):
                for function in (breaks, first_break, broken_patterns, blamed):
                    self.fails(InvalidRule, function, LAST, value)
            if not isinstance(value, Pattern):
                self.fails(InvalidPattern, is_placing, LAST, value, {"x": "a"})
                self.fails(InvalidPattern, arrangement_of, LAST, value, None)
                found = placings(LAST, value)
                self.fails(InvalidPattern, next, found)


if __name__ == "__main__":
    unittest.main()
