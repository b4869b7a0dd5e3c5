"""[9.1] to [9.4], [0.16]: cases, maps, rules that follow from others, cores."""

import itertools
import random
import unittest

from letterrules.answers.follows import (
    MAX_CASES, are_alike, cases, core, follow_paper, follows, idle_conditions, is_core, is_follow_paper, maps,
)
from letterrules.errors import InvalidOperation, InvalidPattern, InvalidRule, TooMany
from letterrules.own.orders import OwnOrder, own_orders
from letterrules.own.ownruns import own_run
from letterrules.rules.breaks import breaks, is_placing
from letterrules.rules.patterns import Pattern, Rule, arrangements
from letterrules.runs.runs import Run
from letterrules.runs.sets import SETS, is_in
from support import (
    CROSS, LAST, OVERTAKE, STALE, VALUES, Case, closed_steps, given_steps, many_patterns, others, run_of, some_run,
)

EXAMPLES = """
>>> [follows(Rule(CROSS), Rule(STALE)), follows(Rule(STALE), Rule(OVERTAKE)), follow_paper(Rule(STALE), Rule(OVERTAKE))[0], idle_conditions(OVERTAKE)]
[True, False, 'parted', ()]
>>> list(cases(STALE))
[(((('read', 'y'), ('read', 'x')),), ('order', 'report'))]
"""

SX, SY, RX, RY = ("send", "x"), ("send", "y"), ("read", "x"), ("read", "y")
KINDS = (None, None, ("k",), ("k", "l"))
ANY = Pattern(x=None)
RINGS = Pattern(conditions=((SX, SY), (SY, SX)), groups=((RX, RY),), x=None, y=None)
FOUR = ("a", "b", "c", "d")
# 1944 arrangements times choices, and 2048 of them.
MOST = Pattern(v=FOUR[:3], w=FOUR[:3], x=FOUR[:3], y=FOUR[:3], z=FOUR[:3], groups=((SX, SY), (RX, RY), (("send", "z"), ("send", "v"))))
MORE = Pattern(v=FOUR, w=FOUR, x=FOUR, y=FOUR, z=FOUR, groups=((SX, SY),))


def naive_cases(pattern, among="all"):
    choices = list(itertools.product(*[(None,) if kinds is None else kinds for kinds in pattern.letters.values()]))
    found = []
    for arrangement in arrangements(pattern):
        ahead = closed_steps(given_steps(pattern, arrangement))
        if all(e != f for e, f in ahead):
            if SETS.index(OwnOrder(pattern, arrangement).run_set) >= SETS.index(among):
                found.extend((arrangement, choice) for choice in choices)
    return found


def naive_maps(pattern, other, arrangement, choice):
    ahead = closed_steps(given_steps(other, arrangement))
    kinds = dict(zip(other, choice))
    found = []
    for row in itertools.permutations(other, len(pattern)):
        names = dict(zip(pattern, row))

        def put(event):
            return (event[0], names[event[1]])

        if (all(told is None or kinds[names[name]] in told for name, told in pattern.letters.items())
                and all((put(e), put(f)) in ahead for e, f in pattern.conditions)
                and all(any({put(e) for e in group} <= set(own) for own in other.groups) for group in pattern.groups)):
            found.append(names)
    return found


def naive_follows(rule, other, among):
    return all(any(naive_maps(one, pattern, *case) for one in rule.patterns)
               for pattern in other.patterns for case in naive_cases(pattern, among))


def near(pattern):
    """Patterns that differ from this one by little."""
    events = [(word, name) for word in ("send", "read") for name in pattern]
    yield from (pattern.without_condition(*pair) for pair in pattern.conditions)
    yield from (pattern.without_group(group[0]) for group in pattern.groups)
    yield pattern.with_condition(events[0], events[-1])
    if len(pattern) < 4:
        yield pattern.with_letter("b", "k")
    if len(pattern) > 1:
        yield pattern.without_letter(events[0][1])
    for name, kinds in pattern.letters.items():
        yield pattern.with_letter(name, "k") if kinds != ("k",) else pattern.with_letter(name)
        yield pattern.with_letter(name, "k", "l")


def some_pairs():
    """Rules that are near one another, and others."""
    chance = random.Random(91)
    patterns = [CROSS, OVERTAKE, STALE, ANY, RINGS, *many_patterns(92, 24, KINDS, most=3)]
    for pattern in patterns:
        nearby = list(near(pattern))
        for other in chance.sample(nearby, min(4, len(nearby))):
            yield Rule(pattern), Rule(other)
            yield Rule(other), Rule(pattern)
    for many in (2, 3, 2, 4):
        rule = Rule.of(tuple(chance.sample(patterns, many)))
        yield rule, Rule.of(tuple(chance.sample(patterns, 2)))
        yield rule, Rule(rule[1])


class ExampleTests(Case):
    def test_examples(self):
        self.examples(EXAMPLES, dict(globals()))


class CaseTests(Case):
    def test_cases(self):
        self.same(MAX_CASES, 2000)
        some = 0
        for pattern in (CROSS, OVERTAKE, STALE, RINGS, *many_patterns(93, 40, KINDS)):
            self.same(list(cases(pattern)), naive_cases(pattern))
            for among in SETS:
                wanted = naive_cases(pattern, among)
                some += 0 < len(wanted) < len(naive_cases(pattern))
                self.same(list(cases(pattern, among=among)), wanted)
        self.assertGreater(some, 8)

    def test_choices(self):
        pattern = Pattern(x=("b", "a"), y=None, z=("c", "d"), groups=((SX, SY),))
        choices = [("a", None, "c"), ("a", None, "d"), ("b", None, "c"), ("b", None, "d")]
        self.same(list(cases(pattern)), [(row, choice) for row in arrangements(pattern) for choice in choices])

    def test_in_part_and_twice(self):
        one, other = cases(MOST), cases(MOST)
        self.assertEqual(next(one), next(other))
        self.assertEqual(next(one), next(other))
        self.same(len(list(one)), 1942)
        self.same(len(list(other)), 1942)

    def test_letters_of_any_kind_have_one_choice(self):
        events = [(word, name) for word in ("send", "read") for name in "vwxy"]
        pattern = Pattern.of(dict.fromkeys("vwxyz"), (), (tuple(events[:4]), tuple(events[4:])))
        self.same(len(list(cases(pattern.with_letter("z", *"abc")))), 1728)
        steps = cases(pattern.with_letter("z", *"abcd"))
        self.fails_with(TooMany, 2000, next, steps)

    def test_errors_come_with_the_first_value(self):
        for value in others(Pattern):
            steps = cases(value, among=5)
            self.fails(InvalidPattern, next, steps)
        for value in VALUES:
            if value != "all":
                steps = cases(MORE, among=value)
                self.fails(InvalidOperation, next, steps)
        steps = cases(MORE)
        self.fails_with(TooMany, 2000, next, steps)


class MapTests(Case):
    def test_maps(self):
        some = 0
        patterns = [CROSS, OVERTAKE, STALE, ANY, *many_patterns(94, 30, KINDS)]
        chance = random.Random(95)
        for pattern in patterns:
            for other in [*chance.sample(patterns, 5), *near(pattern)]:
                for case in naive_cases(other)[:4]:
                    wanted = naive_maps(pattern, other, *case)
                    self.same(list(maps(pattern, other, *case)), wanted)
                    some += len(wanted)
        self.assertGreater(some, 300)

    def test_maps_by_hand(self):
        two = Pattern(x=("a", "b"), y=None)
        self.same(list(maps(two, two, (), ("a", None))), [{"x": "x", "y": "y"}])
        self.same(list(maps(Pattern(x=None, y=None), two, (), ("b", None))), [{"x": "x", "y": "y"}, {"x": "y", "y": "x"}])
        self.same(list(maps(Pattern(x=("b",)), two, (), ("a", None))), [])
        self.same(list(maps(Pattern(u=("b",)), two, (), ("b", None))), [{"u": "x"}])
        self.same(list(maps(Pattern(u=None, v=None, w=None), two, (), ("b", None))), [])
        loop = Pattern(conditions=((SX, SX),), x=None)
        self.same(list(maps(loop, two, (), ("b", None))), [])
        self.same(list(maps(ANY, loop.without_condition(SX, SX), (), (None,))), [{"x": "x"}])

    def test_in_part_and_twice(self):
        three = Pattern(x=None, y=None, z=None)
        one, other = maps(three, MOST, next(arrangements(MOST)), ("a",) * 5), maps(three, MOST, next(arrangements(MOST)), ("a",) * 5)
        first = next(one)
        first["x"] = "junk"
        self.same(next(other), {"x": "v", "y": "w", "z": "x"})
        self.same(len(list(one)), 59)
        self.same(len(list(other)), 59)

    def test_no_limit(self):
        (case,) = [next(iter([(row, ("a",) * 5)])) for row in list(arrangements(MORE))[:1]]
        self.same(len(list(maps(MORE, MORE, *case))), 12)

    def test_errors(self):
        row = ((RY, RX),)
        for value in others(Pattern):
            steps = maps(value, 5, 5, 5)
            self.fails(InvalidPattern, next, steps)
            steps = maps(value, ANY, (), (None,))
            self.fails(InvalidPattern, next, steps)
            steps = maps(value, ANY, 5, 5)
            self.fails(InvalidPattern, next, steps)
            steps = maps(CROSS, value, 5, 5)
            self.fails(InvalidPattern, next, steps)
        for value in (*VALUES, ((RX, RY),), (row,), [(RY, RX)], ((RY, RY),)):
            steps = maps(CROSS, STALE, value, ("order", "report"))
            self.fails(InvalidOperation, next, steps)
        for value in (*VALUES, ("order",), ("order", None), ("order", "report", "k"), ["order", "report"], ("report", "order"),
                      (("order",), "report"), (True, "report"), (["order"], {})):
            steps = maps(CROSS, STALE, row, value)
            self.fails(InvalidOperation, next, steps)
        for value in (*VALUES, ("a",), ("other",), (None, None), [None], (False,), ("plain",)):
            steps = maps(ANY, ANY, (), value)
            self.fails(InvalidOperation, next, steps)
        self.same(list(maps(ANY, ANY, (), (None,))), [{"x": "x"}])


class FollowTests(Case):
    def test_pairs_of_rules(self):
        seen = set()
        for rule, other in some_pairs():
            for among in SETS:
                wanted = naive_follows(rule, other, among)
                seen.add((among, wanted))
                self.assertIs(follows(rule, other, among=among), wanted)
                self.look(rule, other, among, wanted)
            self.assertIs(follows(rule, other), follows(rule, other, among="all"))
        self.assertEqual(len(seen), 8)

    def look(self, rule, other, among, wanted):
        paper = follow_paper(rule, other, among=among)
        self.assertIs(is_follow_paper(rule, other, paper, among=among), True)
        self.same((type(paper), paper[0]), (tuple, "follows" if wanted else "parted"))
        if wanted:
            keys = [(index, *case) for index, pattern in enumerate(other.patterns) for case in naive_cases(pattern, among)]
            self.same(list(paper[1]), keys)
            for (index, *case), (at, names) in paper[1].items():
                self.assertIn(names, naive_maps(rule[at], other[index], *case))
        else:
            _, run, index, placing = paper
            self.assertTrue(is_in(run, among) and not breaks(run, rule) and is_placing(run, other[index], placing))

    def test_by_runs(self):
        chance, told = random.Random(96), 0
        pairs = [pair for pair in some_pairs() if follows(*pair)]
        for at in range(25):
            run = some_run(chance, 4, "pqr", 0.9, ("k", "l", "order", "report"))
            run = run.without(*run.unread)
            for rule, other in pairs:
                told += breaks(run, other)
                self.assertTrue(breaks(run, rule) or not breaks(run, other))
        self.assertGreater(told, 100)

    def test_following_among_fewer_runs_only(self):
        # Among causal runs no letter overtakes another one, so a rule that bars it follows from every rule.
        for among, wanted in (("all", False), ("pairs", True), ("causal", True), ("single", True)):
            self.assertIs(follows(Rule(CROSS.with_letter("z", "k")), Rule(OVERTAKE), among=among), wanted)
            self.assertIs(follows(Rule(CROSS.with_letter("z", "k")), Rule(STALE), among=among), among in ("causal", "single"))

    def test_are_alike(self):
        for rule, other in some_pairs():
            for among in SETS:
                wanted = follows(rule, other, among=among) and follows(other, rule, among=among)
                self.assertIs(are_alike(rule, other, among=among), wanted)
        swapped = Rule(CROSS.renamed({"x": "a", "y": "b"}))
        self.assertTrue(are_alike(Rule(CROSS), swapped))
        self.assertTrue(are_alike(Rule(CROSS, STALE), swapped))

    def test_unlike_only_by_kinds(self):
        one = Pattern(x=("k",), y=("l",), conditions=((SX, RY),))
        for other, wanted in ((one.with_letter("y", "l", "m"), False), (one.with_letter("y"), False), (one, True)):
            self.assertIs(follows(Rule(one), Rule(other)), wanted)
            self.assertTrue(follows(Rule(other), Rule(one)))
        both = Rule(one, one.with_letter("y", "m"))
        self.assertTrue(follows(both, Rule(one.with_letter("y", "l", "m"))))
        self.assertFalse(follows(both, Rule(one.with_letter("y", "l", "m", "n"))))

    def test_limits_and_errors(self):
        most, more, any_rule = Rule(MOST), Rule(CROSS, MORE), Rule(ANY)
        self.assertTrue(follows(more, Rule(CROSS)))
        self.assertTrue(follows(any_rule, most))
        self.same(follow_paper(more, Rule(CROSS))[0], "follows")
        self.assertIs(is_follow_paper(more, Rule(CROSS), None), False)
        for function in (follows, follow_paper, are_alike):
            self.fails_with(TooMany, 2000, function, any_rule, more)
        self.fails_with(TooMany, 2000, are_alike, more, any_rule)
        self.fails_with(TooMany, 2000, is_follow_paper, any_rule, more, None)
        for function in (core, lambda rule, **more: is_core(rule, None, **more)):
            self.fails_with(TooMany, 2000, function, more)
            for value in VALUES:
                if value != "all":
                    self.fails(InvalidOperation, function, more, among=value)
            for value in others(Rule):
                self.fails(InvalidRule, function, value, among=5)
                self.fails(InvalidRule, function, value)
        self.fails_with(TooMany, 2000, idle_conditions, MORE)
        for value in others(Pattern):
            self.fails(InvalidPattern, idle_conditions, value)
        for function in (follows, follow_paper, are_alike, lambda one, other, **more: is_follow_paper(one, other, 5, **more)):
            for value in others(Rule):
                self.fails(InvalidRule, function, value, 5, among=5)
                self.fails(InvalidRule, function, value, Rule(CROSS), among=5)
                self.fails(InvalidRule, function, value, Rule(CROSS))
                self.fails(InvalidRule, function, value, more)
                self.fails(InvalidRule, function, Rule(CROSS), value)
                self.fails(InvalidRule, function, more, value, among=5)
            for value in VALUES:
                if value != "all":
                    self.fails(InvalidOperation, function, more, more, among=value)


class PaperTests(Case):
    def test_maps_of_others(self):
        changed = 0
        for rule, other in some_pairs():
            paper = follow_paper(rule, other)
            if paper[0] == "parted":
                continue
            for key in list(paper[1])[:3]:
                for at, pattern in enumerate(rule.patterns):
                    for row in itertools.permutations(other[key[0]], min(len(pattern), len(other[key[0]]))):
                        names = dict(zip(pattern, row))
                        wanted = names in naive_maps(pattern, other[key[0]], *key[1:])
                        found = {**paper[1], key: (at, dict(reversed(names.items())))}
                        self.assertIs(is_follow_paper(rule, other, ("follows", dict(reversed(found.items())))), wanted)
                        changed += wanted and found != paper[1]
        self.assertGreater(changed, 10)

    def test_keys_more_and_less(self):
        rule, other = Rule(ANY, CROSS), Rule(STALE, Pattern(x=("k", "l")))
        _, found = follow_paper(rule, other)
        self.assertIs(is_follow_paper(rule, other, ("follows", found)), True)
        for key in found:
            less = {one: value for one, value in found.items() if one != key}
            self.assertIs(is_follow_paper(rule, other, ("follows", less)), False)
            for wrong in ((bool(key[0]), *key[1:]), key[:2], (*key, None), (7, *key[1:]), (key[0], (), ("z",)), "key", None,
                          (key[0], key[2], key[1]), (str(key[0]), *key[1:])):
                self.assertIs(is_follow_paper(rule, other, ("follows", {**less, wrong: found[key]})), False)
                if wrong not in found:
                    self.assertIs(is_follow_paper(rule, other, ("follows", {**found, wrong: found[key]})), False)
            at, names = found[key]
            for wrong in ((bool(at), names), (at + 7, names), (-1, names), (at,), (at, names, names), [at, names], names, None,
                          (at, {}), (at, {**names, "b": "x"}), (at, dict.fromkeys(names, "q")), (at, dict.fromkeys(names, ["x"])),
                          (at, tuple(names.items())), (str(at), names), (at, None), (at, {1: "x"}), *VALUES):
                self.assertIs(is_follow_paper(rule, other, ("follows", {**found, key: wrong})), False)
        for value in (*VALUES, ("follows",), ("follows", found, None), ["follows", found], ("parted", found), found,
                      ("follows", list(found)), ("follows", {}), ("follows", found, None, None)):
            self.assertIs(is_follow_paper(rule, other, value), False)

    def test_wrong_maps(self):
        rule, other = Rule(Pattern(x=None, y=None)), Rule(CROSS)
        (key,) = follow_paper(rule, other)[1]
        for names, wanted in (({"x": "x", "y": "y"}, True), ({"x": "y", "y": "x"}, True), ({"x": "x", "y": "x"}, False),
                              ({"x": "x", "b": "y"}, False), ({"x": "x", "y": "q"}, False), ({"x": "q", "y": "y"}, False),
                              ({"x": "x", "y": ["y"]}, False), ({"x": "x", "y": True}, False)):
            self.assertIs(is_follow_paper(rule, other, ("follows", {key: (0, names)})), wanted)

    def test_a_run_that_breaks_one_pattern_of_the_rule(self):
        paper = ("parted", LAST, 0, {"x": "a", "y": "c"})
        self.assertIs(is_follow_paper(Rule(RINGS), Rule(CROSS), paper), True)
        self.assertIs(is_follow_paper(Rule(RINGS, STALE), Rule(CROSS), paper), False)
        self.assertIs(is_follow_paper(Rule(STALE, RINGS), Rule(CROSS), paper), False)

    def test_nothing_to_follow(self):
        rule = Rule(RINGS)
        self.same(follow_paper(Rule(CROSS), rule), ("follows", {}))
        self.assertIs(is_follow_paper(Rule(CROSS), rule, ("follows", {})), True)
        self.same(follow_paper(rule, Rule(STALE), among="causal"), ("follows", {}))

    def test_runs_that_part(self):
        rule, other = Rule(OVERTAKE), Rule(CROSS, STALE)
        placing = {"x": "a", "y": "c"}
        for among, wanted in (("all", True), ("pairs", True), ("causal", False), ("single", False)):
            self.assertIs(is_follow_paper(rule, other, ("parted", LAST, 1, placing), among=among), wanted)
        self.assertIs(is_follow_paper(rule, other, ("parted", LAST, 0, placing)), True)
        unread = Run({**LAST.letters, "d": ("k", "p", "r")}, {**LAST.rows, "p": (*LAST.rows["p"], ("send", "d"))})
        overtaken = run_of("p +a +c, q -c -a", a="order", c="report")
        for value in (("parted", LAST, True, placing), ("parted", LAST, 2, placing), ("parted", LAST, 1, {"x": "c", "y": "a"}),
                      ("parted", LAST, 1, None), ("parted", LAST, 1), ("parted", LAST, 1, placing, 1), ["parted", LAST, 1, placing],
                      ("follows", LAST, 1, placing), ("parted", unread, 1, placing), ("parted", overtaken, 1, placing),
                      ("parted", None, 1, placing), ("parted", STALE, 1, placing), ("parted", LAST, -1, placing),
                      ("parted", LAST, "1", placing), (None, LAST, 1, placing)):
            self.assertIs(is_follow_paper(rule, other, value), False)
        for value in VALUES:
            self.assertIs(is_follow_paper(rule, other, ("parted", value, 1, placing)), value == LAST)
        self.assertIs(is_follow_paper(Rule(STALE), other, ("parted", LAST, 0, placing)), False)

    def test_a_run_with_many_letters(self):
        # 60 letters and three of any kind: more choices than `breaks` allows, but the judge has no limit.
        names = [one + other for one in "abcdef" for other in "abcdefghij"]
        letters = {name: ("k", "p", "q") for name in names}
        run = Run(letters, {"p": tuple(("send", name) for name in names), "q": tuple(("read", name) for name in names)})
        four = Pattern(conditions=((RX, SY),), w=None, x=None, y=None, z=None)
        self.fails(TooMany, breaks, run, Rule(four))
        paper = ("parted", run, 0, {"x": "aa", "y": "fj"})
        self.assertIs(is_follow_paper(Rule(four), Rule(Pattern(x=None, y=None, conditions=((SX, RY),))), paper), True)
        self.assertIs(is_follow_paper(Rule(four.without_condition(RX, SY)), Rule(Pattern(x=None, y=None)), paper), False)


class CoreTests(Case):
    def rules(self):
        chance = random.Random(97)
        patterns = [CROSS, OVERTAKE, STALE, RINGS, CROSS.with_letter("x", "k"), *many_patterns(98, 16, KINDS, most=3)]
        patterns = [pattern for at, pattern in enumerate(patterns) if pattern not in patterns[:at]]
        yield Rule(CROSS, STALE, OVERTAKE)
        yield Rule(RINGS, RINGS.renamed({"x": "a"}))
        yield Rule(CROSS, CROSS.renamed({"x": "a"}))
        for many in (1, 2, 3, 3, 4, 4, 5, 6):
            yield Rule.of(tuple(chance.sample(patterns, many)))

    def test_cores(self):
        smaller = 0
        for rule in self.rules():
            for among in SETS:
                found = core(rule, among=among)
                self.assertIs(is_core(rule, found, among=among), True)
                smaller += len(found) < len(rule)
                if len(rule) < 5:
                    self.look_at_parts(rule, found, among)
        self.assertGreater(smaller, 10)

    def look_at_parts(self, rule, found, among):
        alike = {}
        for many in range(1, len(rule) + 1):
            for row in itertools.combinations(range(len(rule)), many):
                part = Rule.of(tuple(rule[at] for at in row))
                alike[row] = are_alike(part, rule, among=among)
                less = [alike[row[:at] + row[at + 1:]] for at in range(many)] if many > 1 else []
                wanted = alike[row] and not any(less)
                self.assertIs(is_core(rule, part, among=among), wanted)
                self.assertTrue(wanted or part != found)

    def test_wrong_values(self):
        rule = Rule(CROSS, OVERTAKE.with_letter("x", "k"), STALE, Pattern(x=("k",)))
        self.assertEqual(core(rule), Rule(CROSS, Pattern(x=("k",))))
        for value in (*VALUES, rule, Rule(Pattern(x=("k",)), CROSS), Rule(CROSS, Pattern(x=None)), CROSS, rule.patterns):
            self.assertIs(is_core(rule, value), False)
        self.assertIs(is_core(rule, Rule(CROSS, Pattern(x=("k",)))), True)

    def test_either_of_two_alike(self):
        rule = Rule(CROSS, CROSS.renamed({"x": "a"}))
        for index in (0, 1):
            self.assertIs(is_core(rule, rule.without(index)), True)
        self.assertIs(is_core(rule, rule), False)


class IdleTests(Case):
    def test_idle_conditions(self):
        some = 0
        for pattern in (CROSS, OVERTAKE, STALE, ANY, RINGS, *many_patterns(99, 40, KINDS, most=4)):
            wanted = tuple(pair for pair in pattern.conditions
                           if are_alike(Rule(pattern), Rule(pattern.without_condition(*pair))))
            self.same(idle_conditions(pattern), wanted)
            some += len(wanted)
        self.assertGreater(some, 10)

    def test_by_hand(self):
        pattern = Pattern(conditions=((SX, RX), (SX, RY), (SX, SY), (SX, SX)), x=None, y=None)
        self.same(idle_conditions(pattern), ((SX, RX), (SX, RY), (SX, SY)))
        pattern = pattern.without_condition(SX, SX)
        self.same(idle_conditions(pattern), ((SX, RX), (SX, RY)))


if __name__ == "__main__":
    unittest.main()
