"""[0.15], [0.16], [8.1] to [8.3]: answers to rules, and their papers."""

import random
import unittest

from letterrules.answers.answers import (
    ANSWERS, answer, answer_paper, answers_without, breaking_paper, hardest, is_answer_paper, is_breaking_paper,
    is_kept_paper, kept_paper, needed, pattern_answer, set_for, sort_for,
)
from letterrules.errors import InvalidOperation, InvalidPattern, InvalidRule
from letterrules.own.orders import OwnOrder, crown_in, late_in, own_orders, pair_in, ring_in
from letterrules.own.ownruns import own_run
from letterrules.rules.breaks import breaks, is_placing
from letterrules.rules.patterns import Pattern, Rule, arrangements
from letterrules.runs.runs import Run
from letterrules.runs.sets import SETS, is_in
from support import CROSS, LAST, OVERTAKE, STALE, VALUES, Case, many_patterns, others, run_of, some_run

EXAMPLES = """
>>> [answer(Rule(CROSS)), answer(Rule(OVERTAKE)), answer(Rule(STALE)), answer(Rule(OVERTAKE, STALE)), hardest(Rule(OVERTAKE, STALE))]
['letters', 'numbers', 'notes', 'notes', (1,)]
>>> [pattern_answer(OVERTAKE.without_group(("read", "x"))), is_kept_paper(Rule(CROSS), "single", {(0, ()): ("crown", ("x", "y"))}), is_breaking_paper(Rule(STALE), "pairs", (0, LAST, {"x": "a", "y": "c"})), kept_paper(Rule(STALE), "pairs")]
['notes', True, True, None]
"""

SX, SY, RX, RY = ("send", "x"), ("send", "y"), ("read", "x"), ("read", "y")
NEVER = Pattern(conditions=((SX, SY),), x=None, y=None)
RINGS = Pattern(conditions=((SX, SY), (SY, SX)), groups=((RX, RY),), x=None, y=None)
# Some arrangements have rings, others have own orders in several sets.
MIXED = Pattern(conditions=((RX, RY),), groups=((RX, RY, ("send", "z")), (SX, SY)), x=None, y=None, z=None)
KINDS = (None, ("k",), ("l", "m"))


def level_of(pattern):
    """The words of [0.15], by the sets of the own orders."""
    return max([SETS.index(order.run_set) + 1 for order in own_orders(pattern)], default=0)


def mirror(pattern):
    """The pattern with sendings in the place of readings, and all conditions turned round."""
    def turn(event):
        return ("read" if event[0] == "send" else "send", event[1])

    conditions = tuple((turn(other), turn(one)) for one, other in pattern.conditions)
    return Pattern.of(pattern.letters, conditions, tuple(tuple(map(turn, group)) for group in pattern.groups))


def some_rules():
    chance = random.Random(81)
    patterns = [CROSS, OVERTAKE, STALE, NEVER, RINGS, MIXED, *many_patterns(82, 30, KINDS)]
    yield from (Rule(pattern) for pattern in patterns)
    for many in (2, 3, 6, 2, 3, 4, 2):
        yield Rule.of(tuple(chance.sample(patterns, many)))


class ExampleTests(Case):
    def test_examples(self):
        self.examples(EXAMPLES, dict(globals()))


class AnswerTests(Case):
    def test_known_answers(self):
        self.same(ANSWERS, ("nothing", "numbers", "notes", "letters", "never"))
        told = ((RINGS, "nothing"), (OVERTAKE, "numbers"), (STALE, "notes"), (CROSS, "letters"), (NEVER, "never"),
                (Pattern(x=None), "never"), (Pattern(conditions=((RX, SX),), x=None), "nothing"), (MIXED, "never"))
        for pattern, wanted in told:
            self.same(pattern_answer(pattern), wanted)
            self.same(answer(Rule(pattern)), wanted)

    def test_answers_are_the_greatest(self):
        for rule in some_rules():
            levels = [level_of(pattern) for pattern in rule.patterns]
            self.same(answer(rule), ANSWERS[max(levels)])
            self.same([pattern_answer(pattern) for pattern in rule.patterns], [ANSWERS[level] for level in levels])
            self.same(hardest(rule), tuple(at for at, level in enumerate(levels) if level == max(levels)))

    def test_mirrored_renamed_and_joined_patterns(self):
        before = None
        for pattern in (CROSS, OVERTAKE, STALE, NEVER, RINGS, MIXED, *many_patterns(83, 40, KINDS)):
            found = pattern_answer(pattern)
            self.same(pattern_answer(mirror(pattern)), found)
            names = dict(zip(pattern, ("self", "groups", "a", "b", "c")))
            renamed = pattern.renamed(names)
            self.same(pattern_answer(renamed), found)
            if before is not None and len(before) + len(pattern) <= 5:
                joined = renamed & before
                least = min(ANSWERS.index(found), ANSWERS.index(pattern_answer(before)))
                self.same(pattern_answer(joined), ANSWERS[least])
            before = pattern

    def test_runs_of_the_set_behind_keep_the_rule(self):
        chance = random.Random(84)
        rules = [rule for rule in some_rules() if answer(rule) != "never"][:25]
        for at in range(30):
            run = some_run(chance, 4, "pqr", 1, ("k", "l", "order", "report"))
            if not run.is_whole:
                run = run.without(*run.unread)
            for rule in rules:
                if is_in(run, SETS[ANSWERS.index(answer(rule))]):
                    self.assertFalse(breaks(run, rule))

    def test_errors(self):
        for value in others(Rule):
            for function in (answer, answer_paper, hardest):
                self.fails(InvalidRule, function, value)
            self.fails(InvalidRule, is_answer_paper, value, None)
            for function in (kept_paper, breaking_paper):
                self.fails(InvalidRule, function, value, 5)
            for function in (is_kept_paper, is_breaking_paper):
                self.fails(InvalidRule, function, value, 5, 5)
        for value in others(Pattern):
            for function in (pattern_answer, answers_without, needed):
                self.fails(InvalidPattern, function, value)
        for value in VALUES:
            if value != "all":
                self.fails(InvalidOperation, kept_paper, Rule(CROSS), value)
                self.fails(InvalidOperation, breaking_paper, Rule(CROSS), value)
                self.fails(InvalidOperation, is_kept_paper, Rule(CROSS), value, 5)
                self.fails(InvalidOperation, is_breaking_paper, Rule(CROSS), value, 5)
                self.fails(InvalidOperation, sort_for, value)
            self.fails(InvalidOperation, set_for, value)
        self.fails(InvalidOperation, set_for, "never")
        self.fails(InvalidOperation, sort_for, "nothing")

    def test_sorts_and_sets(self):
        pairs = (("all", "nothing"), ("pairs", "numbers"), ("causal", "notes"), ("single", "letters"))
        for among, sort in pairs:
            self.same((sort_for(among), set_for(sort)), (sort, among))


class PartsTests(Case):
    def test_answers_without(self):
        for pattern in (CROSS, OVERTAKE, STALE, MIXED, *many_patterns(85, 40, KINDS)):
            wanted = {}
            for one, other in pattern.conditions:
                wanted[("condition", (one, other))] = pattern_answer(pattern.without_condition(one, other))
            for group in pattern.groups:
                wanted[("group", group)] = pattern_answer(pattern.without_group(group[-1]))
            found = answers_without(pattern)
            self.same(found, wanted)
            here = ANSWERS.index(pattern_answer(pattern))
            self.assertTrue(all(ANSWERS.index(word) >= here for word in found.values()))
            self.same(needed(pattern), tuple(key for key in wanted if ANSWERS.index(wanted[key]) > here))

    def test_by_hand(self):
        self.same(answers_without(STALE), {
            ("condition", (RY, RX)): "never", ("condition", (SX, SY)): "never", ("group", (RX, RY)): "notes",
        })
        self.same(needed(STALE), (("condition", (RY, RX)), ("condition", (SX, SY))))
        self.same(needed(OVERTAKE), (("condition", (RY, RX)), ("condition", (SX, SY)),
                                     ("group", (RX, RY)), ("group", (SX, SY))))
        self.same((needed(Pattern(x=None)), answers_without(Pattern(x=None))), ((), {}))


def naive_reasons(pattern, arrangement, among):
    """Some right reasons, however they are found."""
    ring = ring_in(pattern, arrangement)
    if ring is not None:
        return [("ring", (*ring[at:], *ring[:at])) for at in range(len(ring))]
    order = OwnOrder(pattern, arrangement)
    pair, late, crown = pair_in(order), late_in(order), crown_in(order)
    reasons = {"pairs": pair and ("pair", *pair), "causal": late and ("late", *late), "single": crown and ("crown", crown)}
    turned = [("crown", (*crown[1:], crown[0]))] if among == "single" and crown else []
    return [reason for reason in (reasons.get(among), *turned) if reason]


class PaperTests(Case):
    def test_exactly_one_form_exists(self):
        for rule in some_rules():
            for at, among in enumerate(SETS):
                kept, breaking = kept_paper(rule, among), breaking_paper(rule, among)
                is_kept = ANSWERS.index(answer(rule)) <= at
                self.assertEqual((kept is None, breaking is None), (not is_kept, is_kept))
                self.assertIs(is_kept_paper(rule, among, kept), is_kept)
                self.assertIs(is_breaking_paper(rule, among, breaking), not is_kept)
                if is_kept:
                    self.same(list(kept), [(index, row) for index, pattern in enumerate(rule.patterns)
                                           for row in arrangements(pattern)])
                    for (index, row), reason in kept.items():
                        self.assertIs(type(reason), tuple)
                        self.assertEqual(reason[0] == "ring", ring_in(rule[index], row) is not None)
                else:
                    index, run, placing = breaking
                    self.assertTrue(is_in(run, among) and is_placing(run, rule[index], placing))

    def test_reasons_of_others(self):
        chance, changed = random.Random(86), 0
        for rule in some_rules():
            for among in SETS:
                paper = kept_paper(rule, among)
                if paper is None:
                    continue
                for (index, row) in chance.sample(list(paper), min(4, len(paper))):
                    for reason in naive_reasons(rule[index], row, among):
                        other = dict(reversed({**paper, (index, row): reason}.items()))
                        self.assertIs(is_kept_paper(rule, among, other), True)
                        changed += other != paper
                    for word in SETS:
                        for reason in naive_reasons(rule[index], row, word):
                            right = word == among or reason[0] == "ring"
                            self.assertIs(is_kept_paper(rule, among, {**paper, (index, row): reason}), right)
        self.assertGreater(changed, 100)

    def test_papers_with_wrong_reasons(self):
        rule = Rule(CROSS, RINGS)
        paper = kept_paper(rule, "single")
        for reason in (*VALUES, ("crown", "x", "y"), ("crown", ("x",)), ("crown", ("x", "z")), ["crown", ("x", "y")], ("crown",),
                       ("crown", ("x", "y"), ()), ("pair", "x", "y"), ("ring", (SX, RY, SY, RX)), ("late", "x", SX), None,
                       ("crown", ["x", "y"]), (("crown",), ("x", "y"))):
            self.assertIs(is_kept_paper(rule, "single", {**paper, (0, ()): reason}), False)
        self.assertIs(is_kept_paper(rule, "single", {**paper, (0, ()): ("crown", ("y", "x"))}), True)
        key = (1, ((RX, RY),))
        for reason in (*VALUES, ("ring", (SX,)), ("ring", [SX, SY]), ("ring", (SX, SY), ()), ("ring",), ("crown", ("x", "y")),
                       ("ring", SX, SY), ("rings", (SX, SY))):
            self.assertIs(is_kept_paper(rule, "single", {**paper, key: reason}), False)
        self.assertIs(is_kept_paper(rule, "single", {**paper, key: ("ring", (SX, SY))}), True)
        self.assertIs(is_kept_paper(rule, "single", {**paper, key: ("ring", (SY, SX))}), True)
        (arrangement,) = [order.arrangement for order in own_orders(OVERTAKE)]
        rule, key = Rule(OVERTAKE), (0, arrangement)
        for among, right in (("pairs", ("pair", "x", "y")), ("causal", ("late", "x", RY)), ("single", ("crown", ("x", "y")))):
            paper = kept_paper(rule, among)
            self.assertIs(is_kept_paper(rule, among, {**paper, key: right}), True)
            for wrong in (right[:-1], (*right, "x"), ("pair", "y", "x"), ("pair", "x", "z"), ("late", "y", RX), ("late", "x", RX),
                          ("pair", ("x", "y")), ("late", ("x", RY)), ("crown", "x"), (), right[0], list(right), ("pair", ["x"], "y"),
                          ("late", ["x"], RY), ("crown", (["x"], "y")), ("late", "x", "y"), ("pair", "x", RY), ("pair", ("x", "y")),
                          ("junk", *right[1:])):
                self.assertIs(is_kept_paper(rule, among, {**paper, key: wrong}), False)
        self.assertIs(is_kept_paper(rule, "all", {**kept_paper(rule, "pairs")}), False)

    def test_papers_with_wrong_keys(self):
        rule = Rule(CROSS, RINGS)
        paper = kept_paper(rule, "single")
        for key in paper:
            less = {other: reason for other, reason in paper.items() if other != key}
            self.assertIs(is_kept_paper(rule, "single", less), False)
            index, row = key
            for wrong in ((bool(index), row), (index + 2, row), (-1, row), (index, (row,)), (index,), (index, row, row), index,
                          (index, ()) if index else (0, ((),)), "key", None, (row, index)):
                self.assertIs(is_kept_paper(rule, "single", {**less, wrong: paper[key]}), False)
                self.assertIs(is_kept_paper(rule, "single", {**paper, wrong: paper[key]}), wrong == key and wrong in paper)
        for value in (*VALUES, tuple(paper.items()), list(paper), {}):
            self.assertIs(is_kept_paper(rule, "single", value), False)

    def test_breaking_papers_of_others(self):
        rule = Rule(OVERTAKE, STALE)
        placing = {"x": "a", "y": "c"}
        self.assertIs(is_breaking_paper(rule, "pairs", (1, LAST, placing)), True)
        self.assertIs(is_breaking_paper(rule, "all", (1, LAST, dict(reversed(placing.items())))), True)
        overtaken = run_of("p +a +c, q -c -a", a="order", c="report")
        self.assertIs(is_breaking_paper(rule, "all", (0, overtaken, placing)), True)
        self.assertIs(is_breaking_paper(rule, "all", (1, overtaken, placing)), True)
        for word in ("pairs", "causal", "single"):
            self.assertIs(is_breaking_paper(rule, word, (0, overtaken, placing)), False)
        self.assertIs(is_breaking_paper(rule, "causal", (1, LAST, placing)), False)
        unread = Run({**LAST.letters, "d": ("k", "p", "r")}, {**LAST.rows, "p": (*LAST.rows["p"], ("send", "d"))})
        for wrong in ((0, LAST, placing), (True, LAST, placing), (2, LAST, placing), (-1, LAST, placing), ("1", LAST, placing),
                      (1, LAST), (1, LAST, placing, None), [1, LAST, placing], (1, LAST, {"x": "c", "y": "a"}),
                      (1, LAST, {"x": "a"}), (1, LAST, None), (1, LAST, {**placing, "z": "b"}), (1, unread, placing),
                      (1, None, placing), (1, STALE, placing), (placing, LAST, 1), *VALUES):
            self.assertIs(is_breaking_paper(rule, "pairs", wrong), False)

    def test_runs_of_smaller_sets_break_it_too(self):
        run, placing = own_run(next(own_orders(CROSS)))
        for word in SETS:
            self.assertIs(is_breaking_paper(Rule(CROSS), word, (0, run, placing)), word != "single")

    def test_answer_papers(self):
        for rule in some_rules():
            paper = answer_paper(rule)
            word, kept, breaking = paper
            level = ANSWERS.index(word)
            self.same((type(paper), word), (tuple, answer(rule)))
            self.assertEqual((kept is None, breaking is None), (word == "never", word == "nothing"))
            self.assertIs(is_answer_paper(rule, paper), True)
            if kept is not None:
                self.assertIs(is_kept_paper(rule, SETS[level], kept), True)
                self.assertIs(is_answer_paper(rule, (word, None, breaking)), False)
                self.assertIs(is_answer_paper(rule, (word, {}, breaking)), False)
            if breaking is not None:
                self.assertIs(is_breaking_paper(rule, SETS[level - 1], breaking), True)
                self.assertIs(is_answer_paper(rule, (word, kept, None)), False)
                self.assertIs(is_answer_paper(rule, (word, kept, (7, *breaking[1:]))), False)
            for other in ANSWERS:
                self.assertIs(is_answer_paper(rule, (other, kept, breaking)), other == word)
            for wrong in ((word, breaking, kept), list(paper), paper[:2], (*paper, None), (level, kept, breaking),
                          ((word,), kept, breaking), word):
                self.assertIs(is_answer_paper(rule, wrong), False)
        for value in VALUES:
            self.assertIs(is_answer_paper(Rule(RINGS), value), False)
            self.assertIs(is_answer_paper(Rule(NEVER), value), False)
            self.assertIs(is_answer_paper(Rule(RINGS), ("nothing", kept_paper(Rule(RINGS), "all"), value)), value is None)
            never = answer_paper(Rule(NEVER))
            self.assertIs(is_answer_paper(Rule(NEVER), ("never", value, never[2])), value is None)

    def test_answer_papers_for_the_right_sets(self):
        rule = Rule(STALE)
        word, kept, breaking = answer_paper(rule)
        self.same(word, "notes")
        for other in ("pairs", "single"):
            self.assertIs(is_answer_paper(rule, (word, kept_paper(rule, other), breaking)), False)
        run = run_of("p +a +c, q -c -a", a="order", c="report")
        self.assertIs(is_answer_paper(rule, (word, kept, (0, run, {"x": "a", "y": "c"}))), False)
        self.assertIs(is_answer_paper(rule, (word, kept, (0, LAST, {"x": "a", "y": "c"}))), True)

    def test_nothing_gives_access(self):
        rule = Rule(CROSS)
        kept_paper(rule, "single").clear()
        answers_without(CROSS).clear()
        self.assertEqual(len(kept_paper(rule, "single")), 1)
        self.assertEqual(len(answers_without(CROSS)), 2)


if __name__ == "__main__":
    unittest.main()
